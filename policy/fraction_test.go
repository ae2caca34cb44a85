package policy

import (
	"math"
	"testing"
)

func TestFraction(t *testing.T) {
	for _, row := range []struct {
		used, capacity int
		want           complex128
	}{
		{0, 5, 5i},
		{1, 5, 1 + 5i},
		{4, 5, 4 + 5i},
		{5, 5, 5 + 5i},
		{6, 5, 5 + 5i}, // as the capacity
		{1 << 20, 5, 5 + 5i},
		{math.MaxInt, 5, 5 + 5i},
		{-1, 5, 5i}, // as 0
		{-5, 5, 5i},
		{math.MinInt, 5, 5i},

		{0, 1, 1i},
		{1, 1, 1 + 1i},
		{2, 1, 1 + 1i},
		{-1, 1, 1i},

		{0, 0, 1 + 1i}, // a capacity below 1: full
		{1, 0, 1 + 1i},
		{5, 0, 1 + 1i},
		{-5, 0, 1 + 1i},
		{0, -1, 1 + 1i},
		{5, -1, 1 + 1i},
		{-5, -1, 1 + 1i},
		{-9, -5, 1 + 1i},
		{0, math.MinInt, 1 + 1i},
		{math.MinInt, math.MinInt, 1 + 1i},
		{math.MaxInt, math.MinInt, 1 + 1i},

		{0, 1<<20 - 1, 1048575i},
		{1<<20 - 1, 1<<20 - 1, 1048575 + 1048575i},
		{1 << 20, 1<<20 - 1, 1048575 + 1048575i},
		{0, 1 << 20, 1048576i},
		{7, 1 << 20, 7 + 1048576i},
		{1<<20 - 1, 1 << 20, 1048575 + 1048576i},
		{1 << 20, 1 << 20, 1048576 + 1048576i},
		{1<<20 + 1, 1 << 20, 1048576 + 1048576i},
		{0, 1<<20 + 1, 1048576i}, // as 2^20
		{7, 1<<20 + 1, 7 + 1048576i},
		{1<<20 - 1, 1<<20 + 1, 1048575 + 1048576i},
		{1 << 20, 1<<20 + 1, 1048576 + 1048576i},
		{1<<20 + 1, 1<<20 + 1, 1048576 + 1048576i}, // used above what the capacity counts as
		{7, math.MaxInt, 7 + 1048576i},
		{-7, math.MaxInt, 1048576i},
		{math.MaxInt, math.MaxInt, 1048576 + 1048576i},
		{math.MinInt, math.MaxInt, 1048576i},
		{7, 1<<32 + 1, 7 + 1048576i},
		{1<<32 + 1, 9, 9 + 9i},
	} {
		if f := Fraction(row.used, row.capacity); f != row.want {
			t.Errorf("Fraction(%d, %d): %v, not %v", row.used, row.capacity, f, row.want)
		}
	}
}

func TestFractionAsTold(t *testing.T) {
	check := func(used, capacity int) {
		t.Helper()
		if f, want := Fraction(used, capacity), plainFraction(used, capacity).number(); f != want {
			t.Fatalf("Fraction(%d, %d): %v, not %v", used, capacity, f, want)
		}
	}
	for used := -10; used <= 60; used++ {
		for capacity := -10; capacity <= 50; capacity++ {
			check(used, capacity)
		}
	}
	for _, used := range strangers {
		for _, capacity := range strangers {
			check(used, capacity)
		}
		for capacity := -3; capacity <= 20; capacity++ {
			check(used, capacity)
			check(capacity, used)
		}
	}
}

func TestFuller(t *testing.T) {
	for name, row := range map[string]struct {
		a, b plain
		want int
	}{
		"the chapter's first":               {plain{1, 2}, plain{2, 4}, 0},
		"the chapter's second":              {plain{3, 4}, plain{1, 2}, 1},
		"the second one turned round":       {plain{1, 2}, plain{3, 4}, -1},
		"the same":                          {plain{3, 7}, plain{3, 7}, 0},
		"more used of as much":              {plain{4, 7}, plain{3, 7}, 1},
		"as much used of more":              {plain{3, 7}, plain{3, 8}, 1},
		"as much used of less":              {plain{3, 8}, plain{3, 7}, -1},
		"more used, and less full":          {plain{30, 100}, plain{2, 3}, -1},
		"as full, and unlike":               {plain{21, 35}, plain{6, 10}, 0},
		"both empty, and unlike":            {plain{0, 1}, plain{0, 1 << 20}, 0},
		"both empty":                        {plain{0, 9}, plain{0, 9}, 0},
		"both full, and unlike":             {plain{1 << 20, 1 << 20}, plain{1, 1}, 0},
		"full and nearly so":                {plain{1, 1}, plain{1<<20 - 1, 1 << 20}, 1},
		"nearly full and full":              {plain{1<<20 - 1, 1 << 20}, plain{7, 7}, -1},
		"empty and nearly so":               {plain{0, 1}, plain{1, 1 << 20}, -1},
		"nearly empty and empty":            {plain{1, 1 << 20}, plain{0, 5}, 1},
		"empty and full":                    {plain{0, 5}, plain{5, 5}, -1},
		"the greatest against one less":     {plain{1, 1 << 20}, plain{1, 1<<20 - 1}, -1},
		"one less against the greatest":     {plain{1, 1<<20 - 1}, plain{1, 1 << 20}, 1},
		"both but one full":                 {plain{1<<20 - 1, 1 << 20}, plain{1<<20 - 2, 1<<20 - 1}, 1},
		"both but one full, turned round":   {plain{1<<20 - 2, 1<<20 - 1}, plain{1<<20 - 1, 1 << 20}, -1},
		"about half":                        {plain{1 << 19, 1 << 20}, plain{1<<19 - 1, 1<<20 - 1}, 1},
		"just above half of one less":       {plain{1 << 19, 1 << 20}, plain{1 << 19, 1<<20 - 1}, -1},
		"half of the greatest, and of two":  {plain{1 << 19, 1 << 20}, plain{1, 2}, 0},
		"both full, of the greatest":        {plain{1 << 20, 1 << 20}, plain{1<<20 - 1, 1<<20 - 1}, 0},
		"one more than full against full":   {plain{5, 4}, plain{4, 4}, 1},
		"one more than full, of unlike":     {plain{5, 4}, plain{3, 2}, -1},
		"something of nothing against full": {plain{1, 0}, plain{1, 1}, 1},
		"full against something of nothing": {plain{1, 1}, plain{1, 0}, -1},
	} {
		if n := Fuller(row.a.number(), row.b.number()); n != row.want {
			t.Errorf("%s: Fuller(%v, %v): %d, not %d", name, row.a, row.b, n, row.want)
		}
		if n := Fuller(row.b.number(), row.a.number()); n != -row.want {
			t.Errorf("%s: Fuller(%v, %v): %d, not %d", name, row.b, row.a, n, -row.want)
		}
	}
}

func TestFullerAsTold(t *testing.T) {
	for _, l := range [][]plain{few(14), great, append(few(4), great...)} {
		for _, a := range l {
			for _, b := range l {
				for _, pair := range [][2]plain{{a, b}, {a.more(), b}, {a, b.more()}, {a.more(), b.more()}} {
					x, y := pair[0], pair[1]
					if n, want := Fuller(x.number(), y.number()), plainFuller(x, y); n != want {
						t.Fatalf("Fuller(%v, %v): %d, not %d", x, y, n, want)
					}
				}
			}
		}
	}
}

// Where two numbers are no fractions it does not matter what is told, so long as something is.
func TestWhatIsNoFraction(t *testing.T) {
	var l []complex128
	for _, used := range no {
		for _, capacity := range no {
			l = append(l, complex(used, capacity))
		}
	}
	l = append(l, 0)
	for _, a := range l {
		for _, b := range l {
			if n := Fuller(a, b); n < -1 || n > 1 {
				t.Fatalf("Fuller(%v, %v): %d", a, b, n)
			}
			if from, to, ok := Spread([]complex128{a, b}); !ok || from < 0 || from > 1 || to < 0 || to > 1 {
				t.Fatalf("Spread of %v and %v: %d, %d, %v", a, b, from, to, ok)
			}
			Worth([]complex128{a, b}, 0, 1)
			Worth([]complex128{a, b}, 1, 1)
		}
	}
}
