package bits

import (
	"bytes"
	"math"
	"math/rand"
	"slices"
	"testing"

	"braidwork/api"
)

// lengths are those at the edges of bytes, of words and of all that there may be.
var lengths = []int{0, 1, 2, 7, 8, 9, 63, 64, 65, 127, 128, 129, 1000, 65471, 65472, 65473, 65535, 65536}

// wrongPlaces are those that a map of n places does not have.
func wrongPlaces(n int) []int {
	return []int{math.MinInt, -65536, -64, -1, n, n + 1, n + 63, n + 64, n + 65536, math.MaxInt}
}

// somePlaces are those of a map of n places that lie at the edges of bytes and words, rising.
func somePlaces(n int) []int {
	var l []int
	for _, i := range []int{0, 1, 6, 7, 8, 9, 62, 63, 64, 65, 127, 128, n / 2, n - 66, n - 65, n - 64, n - 9, n - 8, n - 2, n - 1} {
		if i >= 0 && i < n {
			l = append(l, i)
		}
	}
	slices.Sort(l)
	return slices.Compact(l)
}

// full is a map of n places all of which are taken.
func full(t *testing.T, n int) *Map {
	t.Helper()
	m := New(n)
	for i := range n {
		if e := m.TakeAt(i); e != api.OK {
			t.Fatalf("TakeAt(%d) of %d free places: %v", i, n, e)
		}
	}
	return m
}

// says holds all that a map tells against what is taken.
func says(t *testing.T, m *Map, taken []bool) {
	t.Helper()
	count := 0
	for i, is := range taken {
		if is {
			count++
		}
		if m.Has(i) != is {
			t.Fatalf("Has(%d) of %d places: %v", i, len(taken), !is)
		}
	}
	if m.Len() != len(taken) || m.Count() != count {
		t.Fatalf("Len %d, Count %d, not %d and %d", m.Len(), m.Count(), len(taken), count)
	}
	for _, i := range wrongPlaces(len(taken)) {
		if m.Has(i) {
			t.Fatalf("Has(%d) of %d places", i, len(taken))
		}
	}
	if b := m.Bytes(); !bytes.Equal(b, bytesOf(taken)) {
		t.Fatalf("Bytes of %d places: %x, not %x", len(taken), b, bytesOf(taken))
	}
}

// bytesOf is what the bytes of such a map are to be.
func bytesOf(taken []bool) []byte {
	var b []byte
	for i, is := range taken {
		if i%8 == 0 {
			b = append(b, 0)
		}
		if is {
			b[i/8] += []byte{1, 2, 4, 8, 16, 32, 64, 128}[i%8]
		}
	}
	return b
}

// nextOf is what Next of such a map is to be.
func nextOf(taken []bool, from int) (int, bool) {
	for i, is := range taken {
		if i >= from && !is {
			return i, true
		}
	}
	return 0, false
}

func TestNew(t *testing.T) {
	for _, n := range lengths {
		says(t, New(n), make([]bool, n))
	}
}

func TestNewOfWhatCountsAsAnother(t *testing.T) {
	for _, n := range []int{-1, -2, -64, -65536, math.MinInt} {
		says(t, New(n), nil)
		if i, ok := New(n).Take(); i != 0 || ok {
			t.Errorf("Take of New(%d): %d, %v", n, i, ok)
		}
	}
	for _, n := range []int{65537, 65600, 131072, 1 << 40, math.MaxInt} {
		says(t, New(n), make([]bool, 65536))
	}
	if Most != 65536 {
		t.Error("Most", Most)
	}
}

func TestTheChaptersExample(t *testing.T) {
	m := New(3)
	take := func(want int, there bool) {
		t.Helper()
		if i, ok := m.Take(); i != want || ok != there {
			t.Fatalf("Take: %d, %v, not %d, %v", i, ok, want, there)
		}
	}
	take(0, true)
	take(1, true)
	if e := m.Free(0); e != api.OK {
		t.Fatal(e)
	}
	take(0, true)
	take(2, true)
	take(0, false)
	take(0, false)
	says(t, m, []bool{true, true, true})
}

func TestTakeTakesAllPlacesInOrder(t *testing.T) {
	for _, n := range lengths {
		m := New(n)
		for want := range n {
			if i, ok := m.Take(); i != want || !ok {
				t.Fatalf("Take of %d places, %d of them taken: %d, %v", n, want, i, ok)
			}
		}
		if i, ok := m.Take(); i != 0 || ok {
			t.Errorf("Take of %d taken places: %d, %v", n, i, ok)
		}
		if m.Count() != n || m.Len() != n {
			t.Errorf("Count %d, Len %d of %d taken places", m.Count(), m.Len(), n)
		}
	}
}

func TestTakeTakesTheLeastFreePlace(t *testing.T) {
	for _, n := range []int{1, 9, 64, 65, 129, 1000, 65536} {
		m := full(t, n)
		free := somePlaces(n)
		for _, i := range free {
			if e := m.Free(i); e != api.OK {
				t.Fatalf("Free(%d) of %d places: %v", i, n, e)
			}
		}
		for _, want := range free {
			if i, ok := m.Take(); i != want || !ok {
				t.Fatalf("Take of %d places: %d, %v, not %d", n, i, ok, want)
			}
		}
		if i, ok := m.Take(); i != 0 || ok {
			t.Errorf("Take of %d taken places: %d, %v", n, i, ok)
		}
	}
}

func TestTakeAtAndFree(t *testing.T) {
	for _, n := range lengths {
		m, taken := New(n), make([]bool, n)
		for _, i := range somePlaces(n) {
			if e := m.Free(i); e != api.ErrState {
				t.Fatalf("Free(%d) of a free place of %d: %v", i, n, e)
			}
			if e := m.TakeAt(i); e != api.OK {
				t.Fatalf("TakeAt(%d) of a free place of %d: %v", i, n, e)
			}
			taken[i] = true
			if e := m.TakeAt(i); e != api.ErrState {
				t.Fatalf("TakeAt(%d) of a taken place of %d: %v", i, n, e)
			}
		}
		says(t, m, taken)
		for _, i := range somePlaces(n) {
			if e := m.Free(i); e != api.OK {
				t.Fatalf("Free(%d) of a taken place of %d: %v", i, n, e)
			}
			if e := m.Free(i); e != api.ErrState {
				t.Fatalf("Free(%d) of a free place of %d: %v", i, n, e)
			}
		}
		says(t, m, make([]bool, n))
	}
}

func TestPlacesThatThereAreNot(t *testing.T) {
	for _, n := range lengths {
		free, taken := New(n), full(t, n)
		for _, i := range wrongPlaces(n) {
			for _, m := range []*Map{free, taken} {
				if e := m.TakeAt(i); e != api.ErrRange {
					t.Errorf("TakeAt(%d) of %d places: %v", i, n, e)
				}
				if e := m.Free(i); e != api.ErrRange {
					t.Errorf("Free(%d) of %d places: %v", i, n, e)
				}
			}
		}
		all := slices.Repeat([]bool{true}, n)
		says(t, free, make([]bool, n))
		says(t, taken, all)
	}
}

func TestNext(t *testing.T) {
	for _, n := range lengths {
		m, taken := full(t, n), slices.Repeat([]bool{true}, n)
		next := func(from int) {
			t.Helper()
			i, ok := m.Next(from)
			if want, there := nextOf(taken, from); i != want || ok != there {
				t.Fatalf("Next(%d) of %d places: %d, %v, not %d, %v", from, n, i, ok, want, there)
			}
		}
		all := append(wrongPlaces(n), somePlaces(n)...)
		for _, from := range all {
			next(from)
		}
		for _, i := range slices.Backward(somePlaces(n)) {
			m.Free(i)
			taken[i] = false
			for _, from := range all {
				next(from)
			}
			next(i + 1)
		}
		says(t, m, taken)
	}
}

func TestNextOfFreePlaces(t *testing.T) {
	m := New(200)
	for from := range 200 {
		if i, ok := m.Next(from); i != from || !ok {
			t.Errorf("Next(%d): %d, %v", from, i, ok)
		}
	}
	for _, from := range []int{-1, -200, math.MinInt} {
		if i, ok := m.Next(from); i != 0 || !ok {
			t.Errorf("Next(%d): %d, %v", from, i, ok)
		}
	}
	for _, from := range []int{200, 201, 255, 256, 65536, math.MaxInt} {
		if i, ok := m.Next(from); i != 0 || ok {
			t.Errorf("Next(%d): %d, %v", from, i, ok)
		}
	}
	says(t, m, make([]bool, 200))
}

func TestNextIsTheLeastOfManyInAWord(t *testing.T) {
	m := New(256)
	for last := 64; last < 192; last++ {
		m.TakeAt(last)
		for from := 64; from <= last; from++ {
			if i, ok := m.Next(from); i != last+1 || !ok {
				t.Fatalf("Next(%d) with all from 64 to %d taken: %d, %v", from, last, i, ok)
			}
		}
	}
	if i, ok := m.Next(0); i != 0 || !ok {
		t.Error("Next(0)", i, ok)
	}
}

func TestClone(t *testing.T) {
	for _, n := range lengths {
		m, taken := New(n), make([]bool, n)
		for _, i := range somePlaces(n) {
			if i%2 == 0 {
				m.TakeAt(i)
				taken[i] = true
			}
		}
		c := m.Clone()
		says(t, c, taken)
		turned := slices.Clone(taken)
		for _, i := range somePlaces(n) {
			turned[i] = !taken[i]
			if taken[i] {
				m.Free(i)
			} else {
				m.TakeAt(i)
			}
		}
		says(t, c, taken)
		says(t, m, turned)
		again := m.Clone()
		for c.Count() < c.Len() {
			c.Take()
		}
		says(t, m, turned)
		says(t, again, turned)
	}
}

func TestMapsHaveNothingToDoWithEachOther(t *testing.T) {
	a, b := New(100), New(100)
	a.TakeAt(5)
	says(t, b, make([]bool, 100))
	b.TakeAt(99)
	if a.Has(99) || !a.Has(5) || a.Count() != 1 {
		t.Error("two maps share places")
	}
}

func TestBytes(t *testing.T) {
	for _, c := range []struct {
		n     int
		taken []int
		want  []byte
	}{
		{0, nil, nil},
		{1, nil, []byte{0}},
		{1, []int{0}, []byte{1}},
		{8, nil, []byte{0}},
		{8, []int{0, 1, 2, 3, 4, 5, 6, 7}, []byte{255}},
		{8, []int{7}, []byte{128}},
		{9, []int{7}, []byte{128, 0}},
		{9, []int{8}, []byte{0, 1}},
		{10, []int{1, 9}, []byte{2, 2}},
		{16, []int{15, 3}, []byte{8, 128}},
		{65, []int{63, 64}, []byte{0, 0, 0, 0, 0, 0, 0, 128, 1}},
	} {
		m := New(c.n)
		for _, i := range c.taken {
			m.TakeAt(i)
		}
		if b := m.Bytes(); !bytes.Equal(b, c.want) {
			t.Errorf("Bytes of %d places with %v taken: %x, not %x", c.n, c.taken, b, c.want)
		}
		got, e := Of(c.n, c.want)
		if e != api.OK || got == nil {
			t.Errorf("Of %d places, %x: %v", c.n, c.want, e)
			continue
		}
		for i := range c.n {
			if got.Has(i) != slices.Contains(c.taken, i) {
				t.Errorf("Of %d places, %x: Has(%d) %v", c.n, c.want, i, got.Has(i))
			}
		}
	}
}

func TestBytesAndOfAtTheEdges(t *testing.T) {
	for _, n := range lengths {
		for _, m := range []*Map{New(n), full(t, n)} {
			b := m.Bytes()
			if len(b) != (n+7)/8 {
				t.Fatalf("Bytes of %d places: %d", n, len(b))
			}
			got, e := Of(n, b)
			if e != api.OK {
				t.Fatalf("Of the bytes of %d places: %v", n, e)
			}
			if got.Len() != n || got.Count() != m.Count() || !bytes.Equal(got.Bytes(), b) {
				t.Errorf("Of the bytes of %d places, %d of them taken: %d of %d", n, m.Count(), got.Count(), got.Len())
			}
		}
	}
}

// ofFails holds that such bytes are those of no map, and that they stay.
func ofFails(t *testing.T, n int, b []byte, want api.Errno) {
	t.Helper()
	in := slices.Clone(b)
	if m, e := Of(n, in); m != nil || e != want {
		t.Errorf("Of %d places and %d bytes: %v, not %v", n, len(b), e, want)
	}
	if !bytes.Equal(in, b) {
		t.Errorf("Of changes what it is handed")
	}
}

func TestOfALengthThatNoMapHas(t *testing.T) {
	for _, n := range []int{math.MinInt, -65536, -9, -8, -7, -1, 65537, 65544, 131072, math.MaxInt - 7, math.MaxInt} {
		for _, b := range [][]byte{nil, {}, {0}, {255}, make([]byte, 8192), make([]byte, 8193)} {
			ofFails(t, n, b, api.ErrArg)
		}
	}
}

func TestOfTooManyOrTooFewBytes(t *testing.T) {
	for _, n := range lengths {
		right := (n + 7) / 8
		for _, wrong := range []int{right - 2, right - 1, right + 1, right + 2, right + 8, 2*right + 3} {
			if wrong >= 0 {
				ofFails(t, n, make([]byte, wrong), api.ErrForm)
			}
		}
	}
	ofFails(t, 1, nil, api.ErrForm)
	ofFails(t, 65536, nil, api.ErrForm)
	ofFails(t, 0, []byte{0}, api.ErrForm)
}

func TestOfBitsBehindTheLastPlace(t *testing.T) {
	ofFails(t, 10, []byte{0, 4}, api.ErrForm)
	for _, n := range lengths {
		for i := n; i%8 != 0; i++ {
			b := make([]byte, (n+7)/8)
			b[i/8] = 1 << (i % 8)
			ofFails(t, n, b, api.ErrForm)
			last := full(t, n).Bytes()
			last[i/8] |= 1 << (i % 8)
			ofFails(t, n, last, api.ErrForm)
		}
	}
}

func TestOfGoesOnAsAMapDoes(t *testing.T) {
	m, e := Of(67, []byte{255, 255, 255, 255, 255, 255, 255, 127, 5})
	if e != api.OK {
		t.Fatal(e)
	}
	for _, want := range []int{63, 65} {
		if i, ok := m.Take(); i != want || !ok {
			t.Errorf("Take: %d, %v, not %d", i, ok, want)
		}
	}
	if i, ok := m.Take(); i != 0 || ok {
		t.Error("Take of taken places", i, ok)
	}
	if e := m.Free(66); e != api.OK {
		t.Error(e)
	}
	if i, ok := m.Next(-3); i != 66 || !ok {
		t.Error("Next", i, ok)
	}
}

func TestBytesAreTheirOwners(t *testing.T) {
	in := []byte{5, 3}
	m, _ := Of(12, in)
	if !bytes.Equal(in, []byte{5, 3}) {
		t.Error("Of changes what it is handed", in)
	}
	in[0], in[1] = 255, 255
	first := m.Bytes()
	if !bytes.Equal(first, []byte{5, 3}) {
		t.Error("Of keeps what it was handed", first)
	}
	clear(first)
	if b := m.Bytes(); !bytes.Equal(b, []byte{5, 3}) {
		t.Error("Bytes shares memory with the map", b)
	}
	second := m.Bytes()
	m.Take()
	if !bytes.Equal(second, []byte{5, 3}) {
		t.Error("Bytes shares memory with the map", second)
	}
}

// A map and a plain list of what is taken are done the same to, in a row that is the same in each run.
func TestManyCalls(t *testing.T) {
	for _, n := range []int{1, 5, 64, 70, 200} {
		r := rand.New(rand.NewSource(int64(n)))
		m, taken := New(n), make([]bool, n)
		for range 3000 {
			i := r.Intn(n+20) - 10
			there := i >= 0 && i < n
			switch r.Intn(5) {
			case 0:
				want := api.ErrRange
				if there {
					want = api.OK
					if taken[i] {
						want = api.ErrState
					}
					taken[i] = true
				}
				if e := m.TakeAt(i); e != want {
					t.Fatalf("TakeAt(%d): %v, not %v", i, e, want)
				}
			case 1, 2:
				want := api.ErrRange
				if there {
					want = api.OK
					if !taken[i] {
						want = api.ErrState
					}
					taken[i] = false
				}
				if e := m.Free(i); e != want {
					t.Fatalf("Free(%d): %v, not %v", i, e, want)
				}
			case 3:
				want, ok := nextOf(taken, 0)
				if got, is := m.Take(); got != want || is != ok {
					t.Fatalf("Take: %d, %v, not %d, %v", got, is, want, ok)
				}
				if ok {
					taken[want] = true
				}
			case 4:
				want, ok := nextOf(taken, i)
				if got, is := m.Next(i); got != want || is != ok {
					t.Fatalf("Next(%d): %d, %v, not %d, %v", i, got, is, want, ok)
				}
				m = m.Clone()
			}
			says(t, m, taken)
			got, e := Of(n, m.Bytes())
			if e != api.OK {
				t.Fatalf("Of the map's bytes: %v", e)
			}
			says(t, got, taken)
		}
	}
}
