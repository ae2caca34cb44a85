package label

import (
	"math"
	"testing"

	"braidwork/api"
	"braidwork/disk"
)

// bankOf is a bank with n disks of 160 sectors.
func bankOf(t *testing.T, n int) *disk.Bank {
	t.Helper()
	b := disk.NewBank()
	for range n {
		if _, e := b.Add(160); e != api.OK {
			t.Fatal("Add", e)
		}
	}
	return b
}

// gen is a right label of the member and Gen.
func gen(member, n int) api.Label {
	l := three()
	l.Member, l.Gen, l.Blocks = member, n, 1+n%96
	return l
}

func is(t *testing.T, what string, got, want api.Errno) {
	t.Helper()
	if got != want {
		t.Fatalf("%s: %v, not %v", what, got, want)
	}
}

// save is to be OK.
func save(t *testing.T, b *disk.Bank, l api.Label) {
	t.Helper()
	is(t, "Save", Save(b, l), api.OK)
}

// loads tells that Load of the member tells this label.
func loads(t *testing.T, b *disk.Bank, want api.Label) {
	t.Helper()
	if l, e := Load(b, want.Member); !same(l, want) || e != api.OK {
		t.Fatalf("Load of %d: %v, %v, not %v", want.Member, l, e, want)
	}
}

// loadsNothing tells that Load answers this error.
func loadsNothing(t *testing.T, b *disk.Bank, d int, want api.Errno) {
	t.Helper()
	if l, e := Load(b, d); !zero(l) || e != want {
		t.Fatalf("Load of %d: %v, %v, not %v", d, l, e, want)
	}
}

// lay writes a sector to a place, and flushes it.
func lay(t *testing.T, b *disk.Bank, d, at int, s api.Sector) {
	t.Helper()
	is(t, "Write", b.Write(api.Place{Disk: d, At: at}, s), api.OK)
	is(t, "Flush", b.Flush(d), api.OK)
}

func TestSaveWritesOnePlaceOfOneMember(t *testing.T) {
	for _, n := range []int{1, 2, 3, 8, big - 2, big - 1} {
		for _, d := range []int{0, 5} {
			b := bankOf(t, 6)
			l := gen(d, n)
			save(t, b, l)
			if b.Writes() != 1 || b.Loose() != 0 {
				t.Fatalf("%d writes, %d loose", b.Writes(), b.Loose())
			}
			for i := range 6 {
				for at := range 160 {
					want := api.Sector{}
					if i == d && at == n%2 {
						want = plainPut(l)
					}
					if s, e := b.Read(api.Place{Disk: i, At: at}); s != want || e != api.OK {
						t.Fatalf("%d %d: %x, %v", i, at, s, e)
					}
				}
			}
			loads(t, b, l)
		}
	}
}

func TestSaveFlushesThatMemberAlone(t *testing.T) {
	b := bankOf(t, 6)
	b.Write(api.Place{Disk: 5, At: 9}, api.Sector{1})
	b.Write(api.Place{Disk: 4, At: 9}, api.Sector{1})
	save(t, b, gen(5, 1))
	if b.Loose() != 1 {
		t.Fatal("Loose", b.Loose())
	}
}

func TestLoadIsOfTheGreaterGen(t *testing.T) {
	b := bankOf(t, 6)
	loadsNothing(t, b, 5, api.ErrNone)
	for n := 1; n < 10; n++ {
		save(t, b, gen(5, n))
		loads(t, b, gen(5, n))
	}
	// One that is older and of the other parity lies beside it, and one of the same parity takes its place.
	save(t, b, gen(5, 4))
	loads(t, b, gen(5, 9))
	save(t, b, gen(5, 3))
	loads(t, b, gen(5, 4))
	for _, pair := range [][2]int{{1, big - 1}, {big - 1, 1}, {255, 256}, {256, 255}, {2, 4}, {4, 2}, {1, 3}, {3, 1}} {
		lay(t, b, 5, 0, plainPut(gen(5, pair[0])))
		lay(t, b, 5, 1, plainPut(gen(5, pair[1])))
		loads(t, b, gen(5, max(pair[0], pair[1])))
	}
}

func TestOfOneGenTheFirst(t *testing.T) {
	b := bankOf(t, 6)
	first, second := gen(5, 6), gen(5, 6)
	second.Array++
	lay(t, b, 5, 0, plainPut(first))
	lay(t, b, 5, 1, plainPut(second))
	loads(t, b, first)
	lay(t, b, 5, 0, plainPut(second))
	lay(t, b, 5, 1, plainPut(first))
	loads(t, b, second)
}

func TestLabelsOfUnlikeArraysAreHeldByGenAlone(t *testing.T) {
	b := bankOf(t, 6)
	low, high := gen(5, 6), gen(5, 7)
	low.Array, high.Array = 9, 2
	save(t, b, low)
	save(t, b, high)
	loads(t, b, high)
}

func TestLoadOfOneLabelAndSomethingElse(t *testing.T) {
	other := gen(0, 100)
	bad := plainPut(gen(5, 100))
	bad[63] = 1
	for at := range 2 {
		for _, junk := range []api.Sector{{}, {'B', 'W'}, bad, plainPut(other)} {
			b := bankOf(t, 6)
			lay(t, b, 5, at, junk)
			lay(t, b, 5, 1-at, junk)
			lay(t, b, 5, 2, plainPut(gen(5, 50)))
			loadsNothing(t, b, 5, api.ErrNone)
			// At either place, whatever its Gen is.
			for _, n := range []int{1, 6, 7} {
				lay(t, b, 5, at, plainPut(gen(5, n)))
				loads(t, b, gen(5, n))
			}
		}
	}
}

func TestALabelOfAnotherMember(t *testing.T) {
	b := bankOf(t, 6)
	lay(t, b, 5, 0, plainPut(gen(0, 8)))
	lay(t, b, 5, 1, plainPut(gen(31, 7)))
	loadsNothing(t, b, 5, api.ErrNone)
	loadsNothing(t, b, 0, api.ErrNone)
	save(t, b, gen(0, 3))
	loads(t, b, gen(0, 3))
	loadsNothing(t, b, 5, api.ErrNone)
}

func TestMembersHaveNothingToDoWithEachOther(t *testing.T) {
	b := bankOf(t, 6)
	save(t, b, gen(0, 3))
	save(t, b, gen(5, 9))
	save(t, b, gen(0, 4))
	loads(t, b, gen(0, 4))
	loads(t, b, gen(5, 9))
	b.Fail(0)
	loadsNothing(t, b, 0, api.ErrDead)
	loads(t, b, gen(5, 9))
}

func TestErrorsOfTheBank(t *testing.T) {
	b := bankOf(t, 6)
	save(t, b, gen(5, 1))
	is(t, "Save on no disk", Save(b, gen(31, 1)), api.ErrNone)
	for _, d := range []int{math.MinInt, -1, 6, 7, 31, 32, math.MaxInt} {
		loadsNothing(t, b, d, api.ErrNone)
	}
	b.Fail(0)
	is(t, "Save on a dead disk", Save(b, gen(0, 1)), api.ErrDead)
	loadsNothing(t, b, 0, api.ErrDead)
	b.Crash(0)
	is(t, "Save of a wrong label", Save(b, api.Label{}), api.ErrArg)
	is(t, "Save on no disk", Save(b, gen(31, 1)), api.ErrNone)
	is(t, "Save on a dead disk", Save(b, gen(0, 1)), api.ErrDead)
	is(t, "Save without power", Save(b, gen(5, 2)), api.ErrDown)
	loadsNothing(t, b, 6, api.ErrNone)
	loadsNothing(t, b, 0, api.ErrDead)
	loadsNothing(t, b, 5, api.ErrDown)
	b.Start()
	loads(t, b, gen(5, 1))
}

func TestADiskOfOneSector(t *testing.T) {
	b := disk.NewBank()
	b.Add(1)
	is(t, "Save at its end", Save(b, gen(0, 1)), api.ErrRange)
	save(t, b, gen(0, 2))
	loadsNothing(t, b, 0, api.ErrRange)
	b.Add(2)
	save(t, b, func() api.Label { l := many(3); l.Members[0].ID, l.Member = 1, 1; return l }())
	if _, e := Load(b, 1); e != api.OK {
		t.Fatal(e)
	}
}

func TestADiskThatFailsAtTheWrite(t *testing.T) {
	b := bankOf(t, 6)
	save(t, b, gen(5, 1))
	b.FailAt(5, 1)
	is(t, "Save", Save(b, gen(5, 2)), api.ErrDead)
	loadsNothing(t, b, 5, api.ErrDead)
}

// masks are some of each kind.
var masks = []uint64{0, 1, 2, 3, 4, 1 << 63, 0x5555555555555555, 0xaaaaaaaaaaaaaaaa, math.MaxUint64}

// Power fails at each of the writes of a row of labels, with something loose on the member and elsewhere.
func TestPowerFailsAtAnyWrite(t *testing.T) {
	const rows = 8
	for at := 1; at <= 2*rows; at++ {
		for _, mask := range masks {
			b := bankOf(t, 6)
			save(t, b, gen(5, 1))
			b.Arm(at, mask)
			n := 1
			for b.Up() && n < rows+1 {
				b.Write(api.Place{Disk: 5 - n%2, At: 2 + n}, api.Sector{byte(n)})
				if e := Save(b, gen(5, n+1)); e == api.OK {
					n++
				}
			}
			if b.Up() {
				t.Fatalf("armed at %d: power did not fail", at)
			}
			b.Start()
			loads(t, b, gen(5, n))
			save(t, b, gen(5, n+1))
			loads(t, b, gen(5, n+1))
		}
	}
}

// Power fails between the write and the flush, as it may.
func TestPowerFailsAheadOfTheFlush(t *testing.T) {
	for _, mask := range masks {
		for n := 1; n < 6; n++ {
			b := bankOf(t, 6)
			save(t, b, gen(5, n))
			b.Write(api.Place{Disk: 5, At: (n + 1) % 2}, plainPut(gen(5, n+1)))
			b.Crash(mask)
			b.Start()
			want := n
			if mask%2 == 1 {
				want = n + 1
			}
			loads(t, b, gen(5, want))
		}
	}
}

func TestASavedLabelStaysBehindAnyCrash(t *testing.T) {
	for _, mask := range masks {
		b := bankOf(t, 6)
		for n := 1; n < 6; n++ {
			save(t, b, gen(5, n))
			b.Crash(mask)
			b.Start()
			loads(t, b, gen(5, n))
		}
	}
}
