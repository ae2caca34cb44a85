package check

import (
	"bytes"
	"fmt"
	"math/rand"
	"slices"
	"testing"

	"braidwork/api"
	"braidwork/disk"
)

// plainSave is Save as the chapter tells it, word by word.
func plainSave(b *disk.Bank, live []int, area, gen int, x []byte) api.Errno {
	if area < 0 || area > 1 || gen < 0 || gen >= big || len(x) > 1696 {
		return api.ErrArg
	}
	parts := plainSplit(gen, x)
	passed := 0
places:
	for _, d := range live {
		for i := range len(parts) + 1 {
			var e api.Errno
			if i < len(parts) {
				e = b.Write(place(d, area, i), parts[i])
			} else {
				e = b.Flush(d)
			}
			switch e {
			case api.OK:
			case api.ErrDead, api.ErrNone:
				passed++
				continue places
			default:
				return api.ErrDown
			}
		}
	}
	if passed == len(live) {
		return api.ErrFailed
	}
	return api.OK
}

// plainPart is what a sector of an area says that it is: generation, part, of how many, and what it holds; false, if it is no part of the number 0.
func plainPart(b *disk.Bank, d, area, i int) (gen, part, parts int, held []byte, ok bool) {
	s, _ := b.Read(place(d, area, i))
	gen = int(s[0])<<24 | int(s[1])<<16 | int(s[2])<<8 | int(s[3])
	part, parts = int(s[8]), int(s[9])
	if s[10] > 53 || parts > 40 || part >= parts {
		return
	}
	held = s[11 : 11+s[10]]
	ok = plain(gen, 0, part, parts, held) == s
	if part < parts-1 {
		ok = ok && len(held) == 53
	} else if parts > 1 {
		ok = ok && len(held) > 0
	}
	return
}

// plainLook is the part of the first of these members that has it there.
func plainLook(b *disk.Bank, members []int, area, gen, part, parts int) ([]byte, bool) {
	for _, d := range members {
		if g, p, n, held, ok := plainPart(b, d, area, part); ok && g == gen && p == part && n == parts {
			return held, true
		}
	}
	return nil, false
}

// plainLoad is Load of members that have all sectors of both areas, in a bank that is up: each first part is tried.
func plainLoad(b *disk.Bank, live []int) (Found, api.Errno) {
	members := slices.DeleteFunc(slices.Clone(live), b.Dead)
	if len(members) == 0 {
		return Found{}, api.ErrFailed
	}
	f, e := Found{}, api.ErrNone
	for area := range 2 {
		for _, d := range members {
			for i := range 32 {
				if gen, _, _, _, ok := plainPart(b, d, area, i); ok {
					f.Seen = max(f.Seen, gen)
				}
			}
			gen, part, parts, x, ok := plainPart(b, d, area, 0)
			if !ok || part != 0 || parts > 32 {
				continue
			}
			for i := 1; ok && i < parts; i++ {
				var held []byte
				held, ok = plainLook(b, members, area, gen, i, parts)
				x = slices.Concat(x, held)
			}
			if ok && (e != api.OK || gen > f.Gen) {
				f.Area, f.Gen, f.Bytes, e = area, gen, x, api.OK
			}
		}
	}
	return f, e
}

// asPlain tells that Load tells what plainLoad does, and answers it.
func asPlain(t *testing.T, b *disk.Bank, live []int) (Found, api.Errno) {
	t.Helper()
	want, we := plainLoad(b, live)
	f, e := Load(b, live)
	if e != we || !sameFound(f, want) {
		t.Fatalf("Load(%v): %v, %v, not %v, %v", live, f, e, want, we)
	}
	return f, e
}

// Save and a plain one are done the same to, on banks that are the same, in a row that is the same in each run.
func TestManySaves(t *testing.T) {
	for seed := range int64(200) {
		r := rand.New(rand.NewSource(seed))
		b := bankOf(t, 4)
		c := b.Clone()
		for range 20 {
			var live []int
			for range r.Intn(5) {
				live = append(live, r.Intn(5)) // 4 is none
			}
			if r.Intn(5) == 0 {
				d, n := r.Intn(4), r.Intn(20)
				b.FailAt(d, n)
				c.FailAt(d, n)
			}
			if r.Intn(10) == 0 {
				n, mask := r.Intn(20), r.Uint64()
				b.Arm(n, mask)
				c.Arm(n, mask)
			}
			x := count(r.Intn(200), r.Intn(300))
			if r.Intn(6) == 0 {
				x = make([]byte, 1680+r.Intn(30))
			}
			area, gen := r.Intn(2), r.Intn(40)
			if r.Intn(8) == 0 {
				area, gen = r.Intn(5)-1, far[r.Intn(len(far))]
			}
			save(t, b, live, area, gen, x, plainSave(c, live, area, gen, x))
			sameBanks(t, b, c)
			b.Start()
			c.Start()
			asPlain(t, b, live)
		}
	}
}

// Areas of sectors that are right, nearly right, and wrong, on some members.
func TestManyAreas(t *testing.T) {
	there, none := map[int]int{}, 0
	for seed := range int64(3000) {
		r := rand.New(rand.NewSource(seed))
		b := bankOf(t, 3)
		for range 1 + r.Intn(5) {
			area, gen := r.Intn(2), 5+r.Intn(4)
			x := count(r.Intn(200), r.Intn(230))
			if r.Intn(9) == 0 {
				x = count(r.Intn(200), 1640+r.Intn(80))
			}
			most := 1 + r.Intn(9)
			for i, s := range plainSplit(gen, x) {
				for d := range 3 {
					if i < 32 && r.Intn(most) > 0 {
						put(t, b, d, area, i, s)
					}
				}
			}
		}
		for range r.Intn(6) {
			num, parts := r.Intn(8)/7, 1+r.Intn(4)
			part := r.Intn(parts)
			s := plain(4+r.Intn(6), num, part, parts, count(r.Intn(250), 53))
			if r.Intn(9) == 0 {
				s[r.Intn(64)] ^= byte(1 << r.Intn(8))
			}
			put(t, b, r.Intn(3), r.Intn(2), r.Intn(5), s)
		}
		if r.Intn(5) == 0 {
			b.Fail(r.Intn(3))
		}
		for _, live := range [][]int{{0, 1, 2}, {2, 1}, {1, 7, 0, 1}, {0}} {
			if f, e := asPlain(t, b, live); e == api.OK {
				there[f.Area]++
			} else {
				none++
			}
		}
	}
	if there[0] < 1000 || there[1] < 1000 || none < 1000 {
		t.Errorf("%v are there, %d are not", there, none)
	}
}

// owner saves states, one behind the other, as the chapter tells: what Load told once more where it is, and then the next one into the other area.
type owner struct {
	b    *disk.Bank
	live []int
	told Found  // what is on all members
	next []byte // what is under way; nil: nothing
}

// begin is an owner whose first state is on all members.
func begin(t *testing.T, n int, x []byte) *owner {
	t.Helper()
	o := &owner{b: bankOf(t, n), told: Found{Gen: 1, Bytes: x}}
	for d := range n {
		o.live = append(o.live, n-1-d)
	}
	save(t, o.b, o.live, 0, 1, x, api.OK)
	return o
}

// save is the next state's way into the other area, with a generation above all that were seen.
func (o *owner) save(x []byte) api.Errno {
	f, e := Load(o.b, o.live)
	if e != api.OK {
		return e
	}
	o.next = x
	e = Save(o.b, o.live, 1-o.told.Area, f.Seen+1, x)
	if e == api.OK {
		o.told, o.next = Found{Area: 1 - o.told.Area, Gen: f.Seen + 1, Bytes: x}, nil
	}
	return e
}

// open loads what there is, and saves it once more where it is.
func (o *owner) open(t *testing.T) api.Errno {
	t.Helper()
	f := o.tells(t, "at the opening", o.b)
	e := Save(o.b, o.live, f.Area, f.Gen, f.Bytes)
	if e == api.OK {
		o.told, o.next = f, nil
	}
	return e
}

// tells tells that Load tells the old state, or the one that is under way, and answers it.
func (o *owner) tells(t *testing.T, when string, b *disk.Bank) Found {
	t.Helper()
	f, e := asPlain(t, b, o.live)
	if e != api.OK || !bytes.Equal(f.Bytes, o.told.Bytes) && (o.next == nil || !bytes.Equal(f.Bytes, o.next)) {
		t.Fatalf("%s: %v, %v, not %v, and perhaps %v", when, f, e, o.told, o.next)
	}
	return f
}

// keeps tells that Load tells the one or the other, also behind a fall, and whichever one more member is lost, as long as one is left.
func (o *owner) keeps(t *testing.T, when string) {
	t.Helper()
	for lost := -1; lost < o.b.Count(); lost++ {
		c := o.b.Clone()
		c.Crash(masks[(lost+1)%len(masks)])
		c.Start()
		c.Fail(lost)
		if slices.ContainsFunc(o.live, func(d int) bool { return !c.Dead(d) }) {
			o.tells(t, fmt.Sprintf("%s, %d is lost", when, lost), c)
		}
	}
}

// twin is an owner of its own that is as this one.
func (o *owner) twin() *owner {
	c := *o
	c.b = o.b.Clone()
	return &c
}

// states are some, of one part, of several, of as many as ahead, of more and of fewer.
func states() [][]byte {
	return [][]byte{count(0, 160), count(1, 107), nil, count(2, 60), count(3, 159)}
}

// Power fails at each write of a checkpoint, whatever of it is kept, and at each write of the opening behind it; then it is opened, and the next one is saved.
func TestPowerFailsAgainAndAgain(t *testing.T) {
	for n := 1; n <= 3; n++ {
		writes := n * plainParts(107)
		for at := 1; at <= writes; at++ {
			for k, mask := range masks {
				o := begin(t, n, count(0, 160))
				o.b.Arm(at, mask)
				is(t, "the next one", o.save(count(1, 107)), api.ErrDown)
				o.b.Start()
				o.keeps(t, "behind a fall")
				for again := 1; again <= n*4; again++ {
					c := o.twin()
					c.b.Arm(again, masks[(k+again)%len(masks)])
					if e := c.open(t); e != api.OK { // there may be fewer writes
						is(t, "the opening", e, api.ErrDown)
						c.b.Start()
						c.keeps(t, "behind a second fall")
						is(t, "the opening", c.open(t), api.OK)
					}
					c.keeps(t, "open")
					c.b.Arm(0, 0)
					is(t, "the next one", c.save(count(2, 120)), api.OK)
					c.keeps(t, "saved")
				}
			}
		}
	}
}

// One member is lost at one write, and power fails at another one, ahead of it or behind it; another one is lost then.
func TestAMemberIsLostAndPowerFails(t *testing.T) {
	for lost := range 3 {
		for fails := 1; fails <= 10; fails++ {
			for at := 1; at <= 10; at++ {
				o := begin(t, 3, count(0, 160))
				o.b.FailAt(lost, fails)
				o.b.Arm(at, masks[(at+fails)%len(masks)])
				o.save(count(1, 107))
				o.b.Start()
				o.keeps(t, "behind a fall")
				o.b.Arm(0, 0)
				is(t, "the opening", o.open(t), api.OK)
				o.keeps(t, "open")
				is(t, "the next one", o.save(count(2, 120)), api.OK)
				o.keeps(t, "saved")
			}
		}
	}
}

// What only one member has is told, is saved once more, and is there without that member, when the next one is under way.
func TestACheckpointOnOneMemberAlone(t *testing.T) {
	for at := 4; at <= 6; at++ { // behind the three parts of the first member
		o := begin(t, 2, count(0, 160))
		o.b.Arm(at, 0)
		is(t, "the next one", o.save(count(1, 107)), api.ErrDown)
		o.b.Start()
		loads(t, "on the first member", o.b, o.live, 1, 2, 2, count(1, 107))
		loads(t, "without it", o.b, []int{0}, 0, 1, 1, count(0, 160))
		is(t, "the opening", o.open(t), api.OK)
		loads(t, "on both", o.b, []int{0}, 1, 2, 2, count(1, 107))
		o.b.Arm(2, 1)
		is(t, "the next one", o.save(count(2, 120)), api.ErrDown)
		o.b.Start()
		o.b.Fail(o.live[0])
		loads(t, "without the first member", o.b, o.live, 1, 2, 2, count(1, 107))
	}
}

// An older one was told, a newer one is there in part: the next one's generation is above both, or parts of two would be one.
func TestTheNextOneIsAboveAllThatWereSeen(t *testing.T) {
	o := begin(t, 1, count(0, 160))
	o.b.Arm(3, 2)
	is(t, "the next one", o.save(count(1, 107)), api.ErrDown)
	o.b.Start()
	loads(t, "the second part is seen", o.b, o.live, 0, 1, 2, count(0, 160))
	is(t, "the opening", o.open(t), api.OK)
	o.b.Arm(3, 1)
	is(t, "the next one", o.save(count(2, 107)), api.ErrDown)
	o.b.Start()
	loads(t, "neither is there", o.b, o.live, 0, 1, 3, count(0, 160))
}

// States are saved, falls happen, members are lost, all but one, and others are opened, in rows that are the same in each run.
func TestManyFalls(t *testing.T) {
	for seed := range int64(400) {
		r := rand.New(rand.NewSource(seed))
		n := 1 + r.Intn(3)
		o := begin(t, n, count(0, 160))
		all := states()
		for range 40 {
			if r.Intn(2) == 0 {
				o.b.Arm(1+r.Intn(12), r.Uint64())
			}
			if d := r.Intn(n); r.Intn(12) == 0 && d > 0 { // one member is left
				o.b.FailAt(d, 1+r.Intn(12))
			}
			if o.next == nil {
				x := count(r.Intn(200), len(all[r.Intn(len(all))]))
				if o.save(x) != api.OK && r.Intn(4) > 0 {
					o.b.Crash(r.Uint64())
				}
			}
			o.b.Start()
			o.keeps(t, "at any time")
			for o.open(t) != api.OK {
				o.b.Start()
				o.keeps(t, "behind an opening that did not end")
				if r.Intn(2) == 0 {
					o.b.Arm(1+r.Intn(6), r.Uint64())
				}
			}
		}
	}
}

// The same calls have the same answers.
func TestTheSameCallsHaveTheSameAnswers(t *testing.T) {
	run := func() (*disk.Bank, Found) {
		b := bankOf(t, 3)
		b.FailAt(1, 9)
		b.Arm(24, 0b10)
		for i, x := range states() {
			Save(b, []int{0, 1, 2}, i%2, i+1, x)
		}
		b.Start()
		f, _ := Load(b, []int{2, 1, 0})
		return b, f
	}
	first, found := run()
	for range 20 {
		b, f := run()
		sameBanks(t, b, first)
		if !sameFound(f, found) {
			t.Fatal(f, found)
		}
	}
}
