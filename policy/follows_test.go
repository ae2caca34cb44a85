package policy

import (
	"cmp"
	"math/big"
	"math/rand"
	"slices"
	"testing"

	"braidwork/api"
)

// Fuller is the order of used / capacity.
func TestFullerIsTheOrderOfWhatIsUsedByWhatThereIs(t *testing.T) {
	for _, l := range [][]plain{few(12), great} {
		for _, a := range l {
			for _, b := range l {
				want := big.NewRat(int64(a.used), int64(a.of)).Cmp(big.NewRat(int64(b.used), int64(b.of)))
				if n := Fuller(a.number(), b.number()); n != want {
					t.Fatalf("Fuller(%v, %v): %d, not %d", a, b, n, want)
				}
			}
		}
	}
}

func TestFullerIsAnOrder(t *testing.T) {
	l := numbers(append(few(7), great...))
	for _, a := range l {
		if n := Fuller(a, a); n != 0 {
			t.Fatalf("Fuller(%v, %v): %d", a, a, n)
		}
		for _, b := range l {
			ab := Fuller(a, b)
			if ba := Fuller(b, a); ba != -ab {
				t.Fatalf("Fuller(%v, %v): %d; turned round: %d", a, b, ab, ba)
			}
			for _, c := range l {
				if bc := Fuller(b, c); ab == bc || ab == 0 || bc == 0 {
					if ac := Fuller(a, c); ac != cmp.Or(ab, bc) {
						t.Fatalf("Fuller(%v, %v): %d, but of both against %v: %d and %d", a, c, ac, b, ab, bc)
					}
				}
			}
		}
	}
}

// By Fuller rows are sorted as by what they are, and so are they with Fractions that were cut.
func TestRowsSortedByFuller(t *testing.T) {
	r := rand.New(rand.NewSource(3))
	for range 200 {
		var l []complex128
		for range 20 {
			l = append(l, Fraction(r.Intn(1<<21)-1<<18, r.Intn(1<<21)-1<<18))
		}
		slices.SortFunc(l, Fuller)
		for i := range l[1:] {
			if x, y := real(l[i])/imag(l[i]), real(l[i+1])/imag(l[i+1]); x > y {
				t.Fatalf("%v ahead of %v", l[i], l[i+1])
			}
		}
	}
}

// Where something is moved that is worth it, both are less full then than the first one was.
func TestWhatIsWorthItMakesBothLessFull(t *testing.T) {
	for _, l := range [][]plain{few(12), great} {
		for _, a := range l {
			for _, b := range l {
				if !Worth(numbers([]plain{a, b}), 0, 1) {
					continue
				}
				if a.used == 0 || b.used == b.of {
					t.Fatalf("from %v to %v there is nothing to be moved", a, b)
				}
				for _, then := range []plain{{a.used - 1, a.of}, b.more()} {
					if Fuller(then.number(), a.number()) != -1 {
						t.Fatalf("moved from %v to %v, there is %v", a, b, then)
					}
				}
			}
		}
	}
}

// leveled tells that none is fuller than any other one would be with one more used.
func leveled(t *testing.T, l []plain) {
	t.Helper()
	for from := range l {
		for to := range l {
			if plainWorth(l, from, to) || Worth(numbers(l), from, to) {
				t.Fatalf("%v: from %d to %d is worth it", l, from, to)
			}
		}
	}
}

// move moves one, and holds what is there then against what there was.
func move(t *testing.T, l []plain, from, to int) {
	t.Helper()
	was := l[from]
	l[from].used--
	l[to].used++
	if l[from].used < 0 || l[to].used > l[to].of {
		t.Fatalf("%v: from %d to %d was moved what there is not", l, from, to)
	}
	if plainFuller(was, l[from]) != 1 || plainFuller(was, l[to]) != 1 {
		t.Fatalf("%v: from %d to %d was moved, where %v was", l, from, to, was)
	}
}

// As long as Choose tells to balance, the fullest gives one to the one that would be fullest least: no more is moved than there is, and then all are level.
func TestBalanceAfterBalanceEnds(t *testing.T) {
	r := rand.New(rand.NewSource(5))
	for range 300 {
		l := members(r)
		all := 0
		for _, p := range l {
			all += p.used
		}
		moved := 0
		for ; Choose(api.Load{Fractions: numbers(l)}) == Balance; moved++ {
			if moved > all {
				t.Fatalf("%v: no end", l)
			}
			from, to, ok := Spread(numbers(l))
			if !ok {
				t.Fatalf("Spread(%v): false", l)
			}
			move(t, l, from, to)
		}
		leveled(t, l)
	}
}

// Whatever is moved that is worth it, there is an end.
func TestMovesThatAreWorthItEnd(t *testing.T) {
	r := rand.New(rand.NewSource(9))
	for range 100 {
		l := members(r)
		for moved := 0; ; moved++ {
			if moved > 100000 {
				t.Fatalf("%v: no end", l)
			}
			var all [][2]int
			for from := range l {
				for to := range l {
					if Worth(numbers(l), from, to) {
						all = append(all, [2]int{from, to})
					}
				}
			}
			if len(all) == 0 {
				break
			}
			one := all[r.Intn(len(all))]
			move(t, l, one[0], one[1])
		}
		leveled(t, l)
	}
}

// Where what Spread tells is not worth it, nothing is; so nobody else has to be asked.
func TestWhatSpreadTellsIsWorthItFirst(t *testing.T) {
	r := rand.New(rand.NewSource(11))
	for range 2000 {
		l := row(r)
		from, to, _ := Spread(numbers(l))
		if !Worth(numbers(l), from, to) {
			leveled(t, l)
		}
	}
}

// members are three to twelve, of as many extents as members may have.
func members(r *rand.Rand) []plain {
	l := make([]plain, 3+r.Intn(10))
	for i := range l {
		of := 5 + r.Intn([]int{3, 20, 494}[r.Intn(3)])
		l[i] = plain{r.Intn(of + 1), of}
	}
	return l
}

// What is handed in stays as it was, also behind its end.
func TestWhatIsHandedInStays(t *testing.T) {
	r := rand.New(rand.NewSource(13))
	for range 300 {
		l := append(row(r), row(r)...)
		all, n := numbers(l), r.Intn(len(l)+1)
		load := api.Load{Hot: r.Intn(2), Bound: 1<<20 + r.Intn(2), Free: -5, Holes: 1 << 21, Clean: -3, Slots: 1 << 22, Fractions: all[:n]}
		was := load
		Spread(all[:n])
		Worth(all[:n], r.Intn(n+1), r.Intn(n+1))
		Choose(load)
		load.Hot, load.Bound = 1, 0
		Choose(load)
		stays(t, all, l)
		load.Hot, load.Bound = was.Hot, was.Bound
		if load.Free != was.Free || load.Holes != was.Holes || load.Clean != was.Clean || load.Slots != was.Slots || len(load.Fractions) != n {
			t.Fatalf("%+v, not %+v", load, was)
		}
	}
}

// Written over, what was handed in has changed no later answer.
func TestWhatIsHandedInIsNotKept(t *testing.T) {
	one, two := numbers(uneven), numbers(even)
	if Choose(api.Load{Fractions: one}) != Balance {
		t.Fatal("uneven")
	}
	copy(one, two)
	if Choose(api.Load{Fractions: one}) != Nothing || Worth(one, 0, 1) {
		t.Error("what was there counts still")
	}
	copy(one, numbers(uneven))
	if from, to, ok := Spread(one); from != 0 || to != 1 || !ok || !Worth(one, from, to) {
		t.Errorf("Spread: %d, %d, %v", from, to, ok)
	}
}

// The same calls have the same answers.
func TestTheSameCallsHaveTheSameAnswers(t *testing.T) {
	run := func() []int {
		r := rand.New(rand.NewSource(15))
		var all []int
		for range 200 {
			l := numbers(row(r))
			from, to, _ := Spread(l)
			all = append(all, from, to, Fuller(l[from], l[to]), Choose(api.Load{Hot: r.Intn(2), Holes: r.Intn(20), Clean: r.Intn(9), Slots: 16, Fractions: l}))
		}
		return all
	}
	want := run()
	for range 20 {
		if got := run(); !slices.Equal(got, want) {
			t.Fatalf("%v, not %v", got, want)
		}
	}
}
