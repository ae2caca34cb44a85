package disk

import (
	"math"
	"testing"

	"braidwork/api"
)

// never are the numbers of a write that never comes.
func never() []int { return []int{0, -1, -2, math.MinInt} }

func TestArm(t *testing.T) {
	for n := 1; n < 6; n++ {
		b := bankOf(t, 8)
		b.Arm(n, 0b101)
		for i := 1; i < n; i++ {
			put(t, b, 0, i, i)
		}
		is(t, "the armed Write", b.Write(place(0, n), sector(n)), api.ErrDown)
		if b.Up() || b.Loose() != 0 || b.Writes() != n {
			t.Fatalf("Up %v, Loose %d, Writes %d", b.Up(), b.Loose(), b.Writes())
		}
		fails(t, b, place(0, 1), api.ErrDown)
		b.Start()
		for i := 1; i < n; i++ {
			want := -1
			if i == 1 || i == 3 {
				want = i
			}
			holds(t, b, 0, i, want)
		}
		holds(t, b, 0, n, -1)
	}
}

func TestTheArmedWriteIsNoneOfTheLooseOnes(t *testing.T) {
	b := bankOf(t, 4)
	put(t, b, 0, 0, 1)
	put(t, b, 0, 1, 2)
	b.Arm(1, math.MaxUint64)
	is(t, "the armed Write", b.Write(place(0, 0), sector(3)), api.ErrDown)
	b.Start()
	holds(t, b, 0, 0, 1)
	holds(t, b, 0, 1, 2)
}

func TestWhatWasArmedComesOnce(t *testing.T) {
	b := bankOf(t, 4)
	b.Arm(1, 0)
	is(t, "the armed Write", b.Write(place(0, 0), sector(1)), api.ErrDown)
	b.Start()
	for at := range 4 {
		put(t, b, 0, at, at)
	}
	loose(t, b, 4)
}

func TestArmOfAWriteThatNeverComes(t *testing.T) {
	for _, n := range append(never(), 1000, math.MaxInt) {
		b := bankOf(t, 4)
		put(t, b, 0, 3, 3)
		b.Arm(n, 0)
		for i := range 10 {
			put(t, b, 0, 0, i)
		}
		if !b.Up() || b.Loose() != 2 {
			t.Errorf("behind Arm of %d: Up %v, Loose %d", n, b.Up(), b.Loose())
		}
	}
}

func TestTheLastArmAloneMatters(t *testing.T) {
	for _, n := range never() {
		b := bankOf(t, 4)
		b.Arm(2, 0)
		b.Arm(n, 0)
		for i := range 5 {
			put(t, b, 0, 0, i)
		}
	}
	for _, first := range []int{1, 2, 3, 9, -1, math.MaxInt} {
		b := bankOf(t, 4)
		b.Arm(first, 1)
		b.Arm(3, 2)
		put(t, b, 0, 0, 1)
		put(t, b, 0, 1, 2)
		is(t, "the armed Write", b.Write(place(0, 2), sector(3)), api.ErrDown)
		b.Start()
		holds(t, b, 0, 0, -1)
		holds(t, b, 0, 1, 2)
		put(t, b, 0, 2, 4)
	}
}

func TestArmCountsFromNowOn(t *testing.T) {
	b := bankOf(t, 4)
	b.Arm(3, 0)
	put(t, b, 0, 0, 1)
	put(t, b, 0, 1, 2)
	b.Arm(2, 0)
	put(t, b, 0, 2, 3)
	is(t, "the armed Write", b.Write(place(0, 3), sector(4)), api.ErrDown)
}

func TestACrashTakesBackWhatWasArmed(t *testing.T) {
	b := bankOf(t, 4)
	b.Arm(2, 0)
	put(t, b, 0, 0, 1)
	crash(t, b, 1)
	for at := range 4 {
		put(t, b, 0, at, at)
	}
	if !b.Up() {
		t.Error("an armed crash outlives another")
	}
}

func TestArmInABankThatIsDown(t *testing.T) {
	b := bankOf(t, 4)
	b.Crash(0)
	b.Arm(2, 1)
	for range 5 {
		is(t, "Write", b.Write(place(0, 0), sector(1)), api.ErrDown)
	}
	b.Start()
	put(t, b, 0, 0, 2)
	is(t, "the armed Write", b.Write(place(0, 1), sector(3)), api.ErrDown)
	if b.Writes() != 2 {
		t.Error("Writes", b.Writes())
	}
	b.Start()
	holds(t, b, 0, 0, 2)
}

// The armed write does nothing but a crash, so that its own error is not told.
func TestTheArmedWriteOfAWrongPlace(t *testing.T) {
	for _, p := range []api.Place{place(2, 0), place(-1, 0), place(1, 0), place(0, 4), place(0, -1), place(math.MaxInt, math.MinInt)} {
		b := bankOf(t, 4, 4)
		b.Fail(1)
		put(t, b, 0, 0, 1)
		b.Arm(1, 1)
		is(t, "the armed Write", b.Write(p, sector(2)), api.ErrDown)
		if b.Up() || b.Writes() != 2 {
			t.Errorf("Write of %v: Up %v, Writes %d", p, b.Up(), b.Writes())
		}
		b.Start()
		holds(t, b, 0, 0, 1)
	}
}

func TestWritesOfWrongPlacesCountForWhatIsArmed(t *testing.T) {
	b := bankOf(t, 4, 4)
	b.Fail(1)
	b.Arm(4, 0)
	b.FailAt(0, 4)
	is(t, "Write", b.Write(place(5, 0), zero), api.ErrNone)
	is(t, "Write", b.Write(place(1, 0), zero), api.ErrDead)
	is(t, "Write", b.Write(place(0, 9), zero), api.ErrRange)
	is(t, "Flush", b.Flush(0), api.OK)
	b.Read(place(0, 0))
	if b.Dead(0) || !b.Up() {
		t.Fatal("Dead", b.Dead(0), "Up", b.Up())
	}
	is(t, "the armed Write", b.Write(place(0, 0), zero), api.ErrDown)
	if !b.Dead(0) || b.Up() {
		t.Fatal("Dead", b.Dead(0), "Up", b.Up())
	}
}

func TestFailAt(t *testing.T) {
	for n := 1; n < 6; n++ {
		b := bankOf(t, 8, 8)
		b.FailAt(1, n)
		for i := 1; i < n; i++ {
			put(t, b, 1, i, i)
		}
		if b.Dead(1) {
			t.Fatalf("the disk fails ahead of the write %d", n)
		}
		is(t, "the Write at which its disk fails", b.Write(place(1, n), sector(n)), api.ErrDead)
		if !b.Dead(1) || b.Dead(0) || !b.Up() || b.Writes() != n || b.Loose() != 0 {
			t.Fatalf("Dead %v, %v, Up %v, Writes %d, Loose %d", b.Dead(1), b.Dead(0), b.Up(), b.Writes(), b.Loose())
		}
	}
}

func TestFailAtAWriteToAnotherDisk(t *testing.T) {
	b := bankOf(t, 4, 4)
	put(t, b, 1, 0, 1)
	b.FailAt(1, 1)
	put(t, b, 0, 0, 2)
	if !b.Dead(1) || b.Dead(0) {
		t.Fatal("Dead", b.Dead(1), b.Dead(0))
	}
	loose(t, b, 1)
	holds(t, b, 0, 0, 2)
}

func TestFailAtAWriteThatNeverComes(t *testing.T) {
	for _, n := range append(never(), 1000, math.MaxInt) {
		b := bankOf(t, 4)
		put(t, b, 0, 0, 1)
		b.FailAt(0, n)
		for i := range 10 {
			put(t, b, 0, 1, i)
		}
	}
}

func TestTheLastFailAtOfADiskAloneMatters(t *testing.T) {
	for _, n := range never() {
		b := bankOf(t, 4)
		b.FailAt(0, 2)
		b.FailAt(0, n)
		for i := range 5 {
			put(t, b, 0, 0, i)
		}
	}
	for _, first := range []int{1, 2, 3, 9, -1, math.MaxInt} {
		b := bankOf(t, 4)
		b.FailAt(0, first)
		b.FailAt(0, 3)
		put(t, b, 0, 0, 1)
		put(t, b, 0, 0, 2)
		is(t, "the third Write", b.Write(place(0, 0), zero), api.ErrDead)
	}
}

func TestEachDiskHasAFailAtOfItsOwn(t *testing.T) {
	b := bankOf(t, 4, 4, 4, 4)
	for i, n := range []int{3, 1, 2, 2} {
		b.FailAt(i, n)
	}
	for k, dead := range [][4]bool{{}, {1: true}, {1: true, 2: true, 3: true}, {true, true, true, true}} {
		if k > 0 {
			b.Write(place(9, 9), zero)
		}
		for i := range 4 {
			if b.Dead(i) != dead[i] {
				t.Fatalf("behind %d writes: Dead of %d: %v", k, i, b.Dead(i))
			}
		}
	}
}

func TestFailAtOfADiskThatThereIsNot(t *testing.T) {
	b := bankOf(t, 4)
	for _, i := range noDisks(1) {
		b.FailAt(i, 1)
	}
	b.Add(4)
	for range 3 {
		put(t, b, 0, 0, 1)
		put(t, b, 1, 0, 1)
	}
}

func TestFailAtOfADeadDisk(t *testing.T) {
	b := bankOf(t, 4, 4)
	b.FailAt(0, 1)
	b.Fail(0)
	b.FailAt(0, 2)
	for range 4 {
		put(t, b, 1, 0, 1)
	}
	fails(t, b, place(0, 0), api.ErrDead)
}

func TestACrashLeavesFailAt(t *testing.T) {
	b := bankOf(t, 4)
	b.FailAt(0, 3)
	put(t, b, 0, 0, 1)
	b.Crash(0)
	for range 5 {
		is(t, "Write", b.Write(place(0, 0), zero), api.ErrDown)
	}
	b.Start()
	put(t, b, 0, 0, 2)
	is(t, "the third Write", b.Write(place(0, 0), zero), api.ErrDead)
}

func TestAnArmedCrashLeavesFailAt(t *testing.T) {
	b := bankOf(t, 4)
	b.FailAt(0, 2)
	b.Arm(1, 0)
	is(t, "the armed Write", b.Write(place(0, 0), zero), api.ErrDown)
	if b.Dead(0) {
		t.Fatal("the disk fails too early")
	}
	b.Start()
	is(t, "the second Write", b.Write(place(0, 0), zero), api.ErrDead)
}

func TestFailAtInABankThatIsDown(t *testing.T) {
	b := bankOf(t, 4)
	b.Crash(0)
	b.FailAt(0, 1)
	is(t, "Write", b.Write(place(0, 0), zero), api.ErrDown)
	if b.Dead(0) {
		t.Fatal("a write counts that does not")
	}
	b.Start()
	is(t, "the first Write", b.Write(place(0, 0), zero), api.ErrDead)
}

// The disk fails first: what it has loose is none of what the crash counts.
func TestADiskFailsAndPowerToo(t *testing.T) {
	for _, to := range []int{0, 1, 2, 7} {
		b := bankOf(t, 4, 4, 4)
		put(t, b, 0, 0, 1)
		put(t, b, 1, 0, 2)
		put(t, b, 2, 0, 3)
		put(t, b, 0, 1, 4)
		b.Arm(1, 0b101)
		b.FailAt(0, 1)
		is(t, "the armed Write", b.Write(place(to, 2), sector(5)), api.ErrDown)
		if b.Up() || !b.Dead(0) || b.Writes() != 5 || b.Loose() != 0 {
			t.Fatalf("Up %v, Dead %v, Writes %d, Loose %d", b.Up(), b.Dead(0), b.Writes(), b.Loose())
		}
		b.Start()
		fails(t, b, place(0, 0), api.ErrDead)
		holds(t, b, 1, 0, 2)
		holds(t, b, 2, 0, -1)
		for i := 1; i < 3; i++ {
			holds(t, b, i, 2, -1)
		}
	}
}
