package mirror

import (
	"math/rand"
	"testing"

	"braidwork/api"
	"braidwork/disk"
)

// plainWrite is Write as the chapter tells it, word by word; so are the others.
func plainWrite(b *disk.Bank, x, y api.Place) answer {
	first := b.Write(x, fresh)
	if first != api.OK && first != api.ErrNone && first != api.ErrDead {
		return failed(first)
	}
	second := b.Write(y, fresh)
	if second != api.OK && second != api.ErrNone && second != api.ErrDead {
		return failed(second)
	}
	if first != api.OK && second != api.OK {
		return failed(api.ErrFailed)
	}
	return answer{}
}

func plainRead(b *disk.Bank, x, y api.Place) answer {
	s, e := b.Read(x)
	if e == api.ErrNone || e == api.ErrDead {
		s, e = b.Read(y)
	}
	if e == api.ErrNone || e == api.ErrDead {
		e = api.ErrFailed
	}
	if e != api.OK {
		return failed(e)
	}
	return answer{s: s}
}

func plainAlike(b *disk.Bank, x, y api.Place) answer {
	s, first := b.Read(x)
	if first != api.OK && first != api.ErrNone && first != api.ErrDead {
		return failed(first)
	}
	r, second := b.Read(y)
	if second != api.OK && second != api.ErrNone && second != api.ErrDead {
		return failed(second)
	}
	if first != api.OK && second != api.OK {
		return failed(api.ErrFailed)
	}
	if first != api.OK || second != api.OK || s == r {
		return answer{}
	}
	switch e := b.Write(y, s); e {
	case api.OK:
		return wrote
	case api.ErrNone, api.ErrDead:
		return answer{}
	default:
		return failed(e)
	}
}

func plainCopy(b *disk.Bank, from, to api.Place) answer {
	s, e := b.Read(from)
	if e == api.OK {
		e = b.Write(to, s)
	}
	return failed(e)
}

// plain is each call, and the plain one.
var plain = []struct {
	call
	told func(b *disk.Bank, x, y api.Place) answer
}{{write, plainWrite}, {read, plainRead}, {alike, plainAlike}, {copied, plainCopy}}

// All kinds of places, be the bank up or not, whatever is armed: each call does what the plain one does, and leaves the same.
func TestAllKindsOfPlaces(t *testing.T) {
	kinds := []api.Place{here, there, near, dead, none, out, below}
	for _, c := range plain {
		for _, x := range kinds {
			for _, y := range kinds {
				for n := range 2 * 3 * 3 * 3 {
					b := begin(t)
					b.FailAt(0, n/2%3)
					b.FailAt(1, n/6%3)
					b.Arm(n/18%3, masks[n%len(masks)])
					if n%2 == 1 {
						b.Crash(0)
					}
					same(t, c.name, c.do, c.told, b, x, y)
				}
			}
		}
	}
}

// same tells that a call answers what a plain one does on a bank that is the same, and leaves it the same.
func same(t *testing.T, name string, do, told func(b *disk.Bank, x, y api.Place) answer, b *disk.Bank, x, y api.Place) {
	t.Helper()
	c := b.Clone()
	got, want := do(b, x, y), told(c, x, y)
	if got != want {
		t.Fatalf("%s(%v, %v): %v, not %v", name, x, y, got, want)
	}
	if got.e != api.OK && got != failed(got.e) {
		t.Fatalf("%s(%v, %v): beside an error %v", name, x, y, got)
	}
	sameBanks(t, name, b, c)
}

// Rows of calls, falls and failures, that are the same in each run.
func TestManyCalls(t *testing.T) {
	for seed := range int64(150) {
		r := rand.New(rand.NewSource(seed))
		b := begin(t)
		some := []api.Place{here, there}
		for range 2 {
			some = append(some, api.Place{Disk: r.Intn(6) - 1, At: r.Intn(11) - 1})
		}
		for range 40 {
			x, y := some[r.Intn(len(some))], some[r.Intn(len(some))]
			switch r.Intn(20) {
			case 0:
				b.Crash(r.Uint64())
			case 1, 2:
				b.Arm(r.Intn(5), r.Uint64())
			case 3:
				b.FailAt(r.Intn(4), r.Intn(8))
			case 4:
				b.Flush(r.Intn(4))
			case 5:
				b.Write(x, stock(y))
			}
			c := plain[r.Intn(len(plain))]
			same(t, c.name, c.do, c.told, b, x, y)
			if !b.Up() && r.Intn(3) > 0 {
				b.Start()
			}
		}
	}
}

// pair is a bank of two disks with the copies of the slots of one extent each.
type pair struct {
	b    *disk.Bank
	x, y api.Extent
}

func pairOf(t *testing.T) pair {
	t.Helper()
	p := pair{disk.NewBank(), api.Extent{Disk: 0, At: 0}, api.Extent{Disk: 1, At: 16}}
	for _, n := range []int{8, 24} {
		_, e := p.b.Add(n)
		is(t, "Add", e, api.OK)
	}
	return p
}

// homes are both copies of a slot.
func (p pair) homes(t *testing.T, slot int) (x, y api.Place) {
	t.Helper()
	x, ok := Home(p.x, slot)
	y, also := Home(p.y, slot)
	if !ok || !also {
		t.Fatal("no home of", slot)
	}
	return x, y
}

// read tells that a slot is s.
func (p pair) read(t *testing.T, what string, slot int, s api.Sector) {
	t.Helper()
	x, y := p.homes(t, slot)
	if got, e := Read(p.b, x, y); got != s || e != api.OK {
		t.Fatalf("%s: the slot %d: %x, %v, not %x", what, slot, got, e, s)
	}
}

// without is p on a bank of its own, of which the disk d is lost.
func (p pair) without(d int) pair {
	p.b = p.b.Clone()
	p.b.Fail(d)
	return p
}

// flush makes what p has last, on those that live.
func (p pair) flush() {
	p.b.Flush(0)
	p.b.Flush(1)
}

// What was written is read, as long as one of both lives, whichever one is lost, at whichever write.
func TestWhatWasWrittenIsRead(t *testing.T) {
	const rows = 12
	for lost := range 2 {
		for n := range 2*rows + 1 {
			p := pairOf(t)
			p.b.FailAt(lost, n)
			var now [api.Run]api.Sector
			for i := range rows {
				slot := i * 5 % api.Run
				x, y := p.homes(t, slot)
				now[slot] = full(byte(i + 1))
				is(t, "Write", Write(p.b, x, y, now[slot]), api.OK)
				for slot, s := range now {
					p.read(t, "behind a write", slot, s)
				}
			}
			if p.b.Dead(lost) != (n > 0) {
				t.Fatal(lost, n, p.b.Dead(lost))
			}
			for d := range 2 {
				for slot, s := range now {
					if q := p.without(d); !q.b.Dead(1 - d) {
						q.read(t, "one is lost", slot, s)
					}
				}
			}
		}
	}
}

// Power fails at each write of a Write, whatever is kept, and one disk is lost then, or none: each slot is what was flushed last, or what was written then; Alike makes both the same, what the first one is.
func TestFalls(t *testing.T) {
	for n := 1; n <= 3; n++ {
		for _, mask := range masks {
			for slot := range api.Run {
				p := pairOf(t)
				x, y := p.homes(t, slot)
				is(t, "Write", Write(p.b, x, y, other), api.OK)
				p.flush()
				p.b.Arm(n, mask)
				if e := Write(p.b, x, y, fresh); n < 3 {
					is(t, "Write", e, api.ErrDown)
				} else {
					is(t, "Write", e, api.OK)
					p.b.Crash(mask)
				}
				p.b.Start()
				for d := -1; d < 2; d++ {
					q := p.without(d)
					s, e := Read(q.b, x, y)
					if e != api.OK || s != other && s != fresh {
						t.Fatalf("%d is lost: %x, %v", d, s, e)
					}
				}
				p.alike(t, slot)
			}
		}
	}
}

// alike tells that Alike makes both copies of a slot what the first one is, that this lasts behind a flush, and that it writes nothing, where one is lost.
func (p pair) alike(t *testing.T, slot int) {
	t.Helper()
	x, y := p.homes(t, slot)
	first, e := p.b.Read(x)
	is(t, "Read", e, api.OK)
	second, e := p.b.Read(y)
	is(t, "Read", e, api.OK)
	for d := range 2 {
		q := p.without(d)
		if ok, e := Alike(q.b, x, y); ok || e != api.OK {
			t.Fatal(d, "is lost:", ok, e)
		}
		q.read(t, "one is lost", slot, []api.Sector{second, first}[d])
	}
	if ok, e := Alike(p.b, x, y); ok != (first != second) || e != api.OK {
		t.Fatalf("Alike of %x and %x: %v, %v", first, second, ok, e)
	}
	p.flush()
	p.b.Crash(0)
	p.b.Start()
	p.without(0).read(t, "the second one alone", slot, first)
	p.without(1).read(t, "the first one alone", slot, first)
	if ok, e := Alike(p.b, x, y); ok || e != api.OK {
		t.Fatal("once more:", ok, e)
	}
}

// Power fails while Alike writes: both are what they were, or the same, and the next Alike makes them so.
func TestFallsInAlike(t *testing.T) {
	for _, mask := range masks {
		p := pairOf(t)
		x, y := p.homes(t, 7)
		put(t, p.b, x, fresh)
		put(t, p.b, y, other)
		p.b.Arm(1, mask)
		if ok, e := Alike(p.b, x, y); ok || e != api.ErrDown {
			t.Fatal(ok, e)
		}
		p.b.Start()
		p.without(1).read(t, "the first one alone", 7, fresh)
		p.without(0).read(t, "the second one alone", 7, other)
		if ok, e := Alike(p.b, x, y); !ok || e != api.OK {
			t.Fatal(ok, e)
		}
		p.b.Crash(mask)
		p.b.Start()
		p.without(1).read(t, "the first one alone", 7, fresh)
		p.alike(t, 7)
	}
}

// A lost copy is made anew elsewhere by Copy, and then the other one may be lost.
func TestCopyMakesALostCopyAnew(t *testing.T) {
	for lost := range 2 {
		p := pairOf(t)
		for slot := range api.Run {
			x, y := p.homes(t, slot)
			is(t, "Write", Write(p.b, x, y, full(byte(slot+1))), api.OK)
		}
		p.flush()
		p.b.Fail(lost)
		d, e := p.b.Add(30)
		is(t, "Add", e, api.OK)
		left := []api.Extent{p.x, p.y}[1-lost]
		anew := api.Extent{Disk: d, At: 22}
		for slot := range api.Run {
			from, _ := Home(left, slot)
			to, _ := Home(anew, slot)
			is(t, "Copy", Copy(p.b, from, to), api.OK)
		}
		is(t, "Flush", p.b.Flush(d), api.OK)
		p.b.Crash(0)
		p.b.Start()
		p.x, p.y = anew, left
		for slot := range api.Run {
			p.read(t, "both live", slot, full(byte(slot+1)))
			p.without(left.Disk).read(t, "the new one alone", slot, full(byte(slot+1)))
		}
	}
}

// The same calls have the same answers.
func TestTheSameCallsHaveTheSameAnswers(t *testing.T) {
	run := func() (*disk.Bank, []answer) {
		b := begin(t)
		b.FailAt(1, 7)
		b.Arm(11, 0b101)
		var l []answer
		for i := range 24 {
			c := plain[i%len(plain)]
			l = append(l, c.do(b, here, there), c.do(b, there, near))
		}
		return b, l
	}
	first, answers := run()
	for range 10 {
		b, l := run()
		sameBanks(t, "once more", b, first)
		for i := range l {
			if l[i] != answers[i] {
				t.Fatal(i, l[i], answers[i])
			}
		}
	}
}
