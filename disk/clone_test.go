package disk

import (
	"math"
	"testing"

	"braidwork/api"
)

// full is a bank in which all is that a bank can have.
func full(t *testing.T) *Bank {
	t.Helper()
	b := bankOf(t, 4, 4, 4)
	put(t, b, 0, 0, 1)
	put(t, b, 1, 0, 2)
	flush(t, b, 0)
	flush(t, b, 1)
	put(t, b, 1, 1, 3)
	put(t, b, 0, 0, 4)
	b.Fail(2)
	b.Arm(3, 0b10)
	b.FailAt(1, 2)
	return b
}

// goesOn tells that a bank is as that of full, by what becomes of it.
func goesOn(t *testing.T, b *Bank) {
	t.Helper()
	if b.Count() != 3 || b.Sectors(1) != 4 || !b.Up() || !b.Dead(2) || b.Dead(1) || b.Writes() != 4 {
		t.Fatalf("Count %d, Sectors %d, Up %v, Dead %v %v, Writes %d", b.Count(), b.Sectors(1), b.Up(), b.Dead(2), b.Dead(1), b.Writes())
	}
	loose(t, b, 2)
	holds(t, b, 0, 0, 4)
	holds(t, b, 1, 0, 2)
	holds(t, b, 1, 1, 3)
	put(t, b, 0, 2, 5)
	holds(t, b, 0, 2, 5)
	put(t, b, 0, 3, 6)
	if !b.Dead(1) {
		t.Fatal("a disk that was to fail lives")
	}
	loose(t, b, 3)
	is(t, "the armed Write", b.Write(place(0, 1), sector(7)), api.ErrDown)
	b.Start()
	for at, v := range []int{1, -1, 5, -1} {
		holds(t, b, 0, at, v)
	}
}

func TestCloneIsAsTheBankInAll(t *testing.T) {
	b := full(t)
	c := b.Clone()
	goesOn(t, c)
	d := b.Clone()
	goesOn(t, b)
	goesOn(t, d)
}

func TestACloneHasNothingToDoWithTheBank(t *testing.T) {
	spoil := func(b *Bank) {
		b.Arm(0, math.MaxUint64)
		for i := range 4 {
			b.FailAt(i, 0)
			for at := range 4 {
				b.Write(place(i, at), sector(99))
			}
			b.Flush(i)
		}
		b.Add(9)
		b.Fail(0)
		b.Crash(0)
	}
	b := full(t)
	c := b.Clone()
	spoil(b)
	goesOn(t, c)
	b = full(t)
	spoil(b.Clone())
	goesOn(t, b)
}

func TestDisksOfACloneAreItsOwn(t *testing.T) {
	b := bankOf(t, 4)
	c := b.Clone()
	for _, n := range []int{5, 6} {
		b.Add(n)
		c.Add(n + 10)
	}
	for i, n := range []int{4, 5, 6} {
		if b.Sectors(i) != n {
			t.Errorf("disk %d of the bank: %d sectors", i, b.Sectors(i))
		}
	}
	for i, n := range []int{4, 15, 16} {
		if c.Sectors(i) != n {
			t.Errorf("disk %d of the clone: %d sectors", i, c.Sectors(i))
		}
	}
	put(t, c, 1, 14, 1)
	fails(t, b, place(1, 14), api.ErrRange)
}

func TestCloneOfABankThatIsDown(t *testing.T) {
	b := bankOf(t, 4)
	put(t, b, 0, 0, 1)
	b.Crash(1)
	c := b.Clone()
	b.Start()
	if c.Up() {
		t.Fatal("a clone is up where its bank was down")
	}
	fails(t, c, place(0, 0), api.ErrDown)
	c.Start()
	holds(t, c, 0, 0, 1)
	NewBank().Clone().Clone().Add(1)
}

func TestBanksHaveNothingToDoWithEachOther(t *testing.T) {
	a, b := bankOf(t, 4), bankOf(t, 4)
	b.Arm(1, 0)
	b.FailAt(0, 1)
	put(t, a, 0, 0, 1)
	if a.Writes() != 1 || b.Writes() != 0 || b.Loose() != 0 {
		t.Fatal("Writes", a.Writes(), b.Writes(), "Loose", b.Loose())
	}
	holds(t, b, 0, 0, -1)
	b.Crash(0)
	b.Fail(0)
	holds(t, a, 0, 0, 1)
}

func TestWhatWasHandedInOrOutIsNotKept(t *testing.T) {
	b := bankOf(t, 4)
	s := sector(1)
	b.Write(place(0, 0), s)
	s[0], s[63] = 77, 78
	holds(t, b, 0, 0, 1)
	got, _ := b.Read(place(0, 0))
	got[5] = 79
	holds(t, b, 0, 0, 1)
	flush(t, b, 0)
	got, _ = b.Read(place(0, 0))
	got[5] = 79
	holds(t, b, 0, 0, 1)
}
