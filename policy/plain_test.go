package policy

import (
	"math"
	"slices"
	"testing"

	"braidwork/api"
)

// plain is a fraction as the chapter tells it: two whole numbers.
type plain struct{ used, of int }

func (p plain) more() plain { return plain{p.used + 1, p.of} }

func (p plain) number() complex128 { return complex(float64(p.used), float64(p.of)) }

func numbers(l []plain) []complex128 {
	var all []complex128
	for _, p := range l {
		all = append(all, p.number())
	}
	return all
}

func plainFraction(used, capacity int) plain {
	if capacity < 1 {
		return plain{1, 1}
	}
	if capacity > 1048576 {
		capacity = 1048576
	}
	if used < 0 {
		used = 0
	}
	if used > capacity {
		used = capacity
	}
	return plain{used, capacity}
}

// plainFuller looks at the imaginary part of the product: i times i is -1, and that of the second one is turned.
func plainFuller(a, b plain) int {
	switch turned := a.of*b.used - a.used*b.of; {
	case turned < 0:
		return 1
	case turned > 0:
		return -1
	}
	return 0
}

func plainSpread(l []plain) (int, int, bool) {
	if len(l) == 0 {
		return 0, 0, false
	}
	first := slices.IndexFunc(l, func(p plain) bool {
		return !slices.ContainsFunc(l, func(other plain) bool { return plainFuller(other, p) == 1 })
	})
	second := slices.IndexFunc(l, func(p plain) bool {
		return !slices.ContainsFunc(l, func(other plain) bool { return plainFuller(p.more(), other.more()) == 1 })
	})
	return first, second, true
}

func plainWorth(l []plain, from, to int) bool {
	if from < 0 || from >= len(l) || to < 0 || to >= len(l) {
		return false
	}
	return plainFuller(l[from], l[to].more()) == 1
}

func counts(n int) int {
	if n < -1 {
		return -1
	}
	if n > 1048576 {
		return 1048576
	}
	return n
}

// plainChoose tells of a load whose fractions are l.
func plainChoose(load api.Load, l []plain) int {
	if counts(load.Hot) > counts(load.Bound) {
		if counts(load.Free) > 0 {
			return 1
		}
		live, slots, holes := counts(load.Clean), counts(load.Slots), counts(load.Holes)
		dead := slots - live
		if live >= 0 && live+live <= slots && holes-dead >= live {
			return 3
		}
		if holes > 0 {
			return 2
		}
		return 0
	}
	if from, to, ok := plainSpread(l); ok && plainWorth(l, from, to) {
		return 4
	}
	return 0
}

// strangers are numbers at the edges.
var strangers = []int{math.MinInt, math.MinInt + 1, -1 << 40, -1<<32 + 1, -2, -1, 0, 1, 2, 3, 1<<20 - 1, 1 << 20, 1<<20 + 1, 1<<32 + 1, 1 << 53, 1<<53 + 1, 1 << 62, math.MaxInt - 1, math.MaxInt}

// no are numbers that no fraction has.
var no = []float64{math.Inf(-1), -math.MaxFloat64, -1, -0.5, math.Copysign(0, -1), math.SmallestNonzeroFloat64, 0.5, 1<<20 + 1, math.MaxFloat64, math.Inf(1), math.NaN()}

// few are all fractions of capacities from 1 to n.
func few(n int) []plain {
	var l []plain
	for of := 1; of <= n; of++ {
		for used := 0; used <= of; used++ {
			l = append(l, plain{used, of})
		}
	}
	return l
}

// great are fractions of the greatest capacities that there are.
var great = []plain{
	{0, 1 << 20}, {1, 1 << 20}, {2, 1 << 20}, {1 << 19, 1 << 20}, {1<<20 - 2, 1 << 20}, {1<<20 - 1, 1 << 20}, {1 << 20, 1 << 20},
	{0, 1<<20 - 1}, {1, 1<<20 - 1}, {2, 1<<20 - 1}, {1 << 19, 1<<20 - 1}, {1<<19 - 1, 1<<20 - 1}, {1<<20 - 3, 1<<20 - 1}, {1<<20 - 2, 1<<20 - 1}, {1<<20 - 1, 1<<20 - 1},
	{1<<19 - 1, 1<<20 - 2}, {1<<20 - 4, 1<<20 - 2}, {1<<20 - 3, 1<<20 - 2}, {1<<20 - 2, 1<<20 - 2},
}

// says holds a row's Spread, and its Worth of all places and of some that it does not have, against a plain one.
func says(t *testing.T, l []plain) {
	t.Helper()
	saysSpread(t, l)
	for from := -2; from <= len(l)+1; from++ {
		for to := -2; to <= len(l)+1; to++ {
			saysWorth(t, l, from, to)
		}
	}
}

func saysSpread(t *testing.T, l []plain) {
	t.Helper()
	handed := numbers(l)
	from, to, ok := Spread(handed)
	if x, y, is := plainSpread(l); from != x || to != y || ok != is {
		t.Fatalf("Spread(%v): %d, %d, %v, not %d, %d, %v", l, from, to, ok, x, y, is)
	}
	stays(t, handed, l)
}

func saysWorth(t *testing.T, l []plain, from, to int) {
	t.Helper()
	handed := numbers(l)
	if worth, is := Worth(handed, from, to), plainWorth(l, from, to); worth != is {
		t.Fatalf("Worth(%v, %d, %d): %v", l, from, to, worth)
	}
	stays(t, handed, l)
}

// saysChoose holds a load's Choose against a plain one.
func saysChoose(t *testing.T, load api.Load, l []plain) {
	t.Helper()
	load.Fractions = numbers(l)
	if do, want := Choose(load), plainChoose(load, l); do != want {
		t.Fatalf("Choose(%+v): %d, not %d", load, do, want)
	}
	stays(t, load.Fractions, l)
}

// stays tells that what was handed in is what it was.
func stays(t *testing.T, handed []complex128, l []plain) {
	t.Helper()
	if !slices.Equal(handed, numbers(l)) {
		t.Fatalf("%v was changed to %v", l, handed)
	}
}
