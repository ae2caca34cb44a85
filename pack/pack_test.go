package pack

import (
	"bytes"
	"math"
	"slices"
	"testing"

	"braidwork/api"
)

// badWidths are those that no number has.
var badWidths = []int{math.MinInt, -1, 0, 7, 8, 64, math.MaxInt}

// roomy is bytes with room behind them, that is filled, so that a write into it is seen.
func roomy(b ...byte) []byte {
	full := append(slices.Clone(b), bytes.Repeat([]byte{0xee}, 40)...)
	return full[:len(b)]
}

// kept tells whether the room behind roomy bytes is as it was.
func kept(b []byte) bool {
	for _, x := range b[len(b):cap(b)][:40] {
		if x != 0xee {
			return false
		}
	}
	return true
}

// most is the greatest number that has room in so many bytes.
func most(width int) int {
	v := 0
	for range width {
		v = v*256 + 255
	}
	return v
}

// count is bytes from 1 on, that go round at 251, so that sectors are unlike.
func count(n int) []byte {
	b := make([]byte, n)
	for i := range b {
		b[i] = byte(i%251 + 1)
	}
	return b
}

func TestPut(t *testing.T) {
	for _, c := range []struct {
		b        []byte
		v, width int
		want     []byte
	}{
		{[]byte{5}, 258, 3, []byte{5, 0, 1, 2}},
		{nil, 0, 1, []byte{0}},
		{nil, 255, 1, []byte{255}},
		{[]byte{}, 256, 2, []byte{1, 0}},
		{[]byte{9, 8}, 0x0102, 2, []byte{9, 8, 1, 2}},
		{nil, 0x01020304, 4, []byte{1, 2, 3, 4}},
		{nil, 0x0102030405, 5, []byte{1, 2, 3, 4, 5}},
		{nil, 0x010203040506, 6, []byte{1, 2, 3, 4, 5, 6}},
		{[]byte{7}, 0, 6, []byte{7, 0, 0, 0, 0, 0, 0}},
	} {
		if b := Put(c.b, c.v, c.width); !bytes.Equal(b, c.want) {
			t.Errorf("Put(%v, %d, %d) = %v, not %v", c.b, c.v, c.width, b, c.want)
		}
	}
}

func TestPutAtTheEdgeOfEachWidth(t *testing.T) {
	for width := 1; width <= 6; width++ {
		want := append([]byte{1}, bytes.Repeat([]byte{255}, width)...)
		if b := Put([]byte{1}, most(width), width); !bytes.Equal(b, want) {
			t.Errorf("Put of the greatest of %d bytes: %v", width, b)
		}
		for _, v := range []int{most(width) + 1, most(width) + 2, -1, math.MinInt, math.MaxInt} {
			if b := Put([]byte{1}, v, width); !bytes.Equal(b, []byte{1}) {
				t.Errorf("Put of %d in %d bytes: %v", v, width, b)
			}
		}
	}
}

func TestPutOfAWrongWidth(t *testing.T) {
	for _, width := range badWidths {
		for _, v := range []int{0, 1, 255, -1} {
			if b := Put([]byte{3, 4}, v, width); !bytes.Equal(b, []byte{3, 4}) {
				t.Errorf("Put of %d in %d bytes: %v", v, width, b)
			}
			if b := Put(nil, v, width); len(b) != 0 {
				t.Errorf("Put of %d in %d bytes behind nothing: %v", v, width, b)
			}
		}
	}
}

// What calls answers, given roomy bytes, is the caller's own, be something put or not.
func ownMemory(t *testing.T, name string, put func(b []byte) []byte) {
	t.Helper()
	in := roomy(1, 2, 3)
	first := put(in)
	if !kept(in) {
		t.Errorf("%s writes into the room behind what it was handed", name)
	}
	want := slices.Clone(first)
	second := put(in)
	clear(second[:cap(second)])
	if !bytes.Equal(in, []byte{1, 2, 3}) || !kept(in) {
		t.Errorf("%s answers the memory that it was handed", name)
	}
	if !bytes.Equal(first, want) {
		t.Errorf("%s answers the same memory twice", name)
	}
	clear(in[:cap(in)])
	if !bytes.Equal(first, want) {
		t.Errorf("%s keeps what it was handed", name)
	}
}

func TestPutAnswersNewMemory(t *testing.T) {
	ownMemory(t, "Put", func(b []byte) []byte { return Put(b, 77, 4) })
	ownMemory(t, "Put of what has no room", func(b []byte) []byte { return Put(b, 256, 1) })
	ownMemory(t, "Put of a wrong width", func(b []byte) []byte { return Put(b, 1, 7) })
	ownMemory(t, "PutRow", func(b []byte) []byte { return PutRow(b, []int{7, 8}, 3) })
	ownMemory(t, "PutRow of nothing", func(b []byte) []byte { return PutRow(b, nil, 3) })
	ownMemory(t, "PutRow of what has no room", func(b []byte) []byte { return PutRow(b, []int{256}, 1) })
	ownMemory(t, "PutRow of a wrong width", func(b []byte) []byte { return PutRow(b, []int{1}, 0) })
}

func TestGet(t *testing.T) {
	b := []byte{1, 2, 3, 4, 5, 6, 7}
	for width, want := range []int{1: 1, 2: 0x0102, 3: 0x010203, 4: 0x01020304, 5: 0x0102030405, 6: 0x010203040506} {
		if width == 0 {
			continue
		}
		if v, ok := Get(b, width); v != want || !ok {
			t.Errorf("Get of %d bytes: %d, %v", width, v, ok)
		}
		if v, ok := Get(b[:width], width); v != want || !ok {
			t.Errorf("Get of just %d bytes: %d, %v", width, v, ok)
		}
		if v, ok := Get(b[:width-1], width); v != 0 || ok {
			t.Errorf("Get of %d bytes of one less: %d, %v", width, v, ok)
		}
		if v, ok := Get(nil, width); v != 0 || ok {
			t.Errorf("Get of %d bytes of nothing: %d, %v", width, v, ok)
		}
		if v, ok := Get(bytes.Repeat([]byte{255}, 9), width); v != most(width) || !ok {
			t.Errorf("Get of the greatest of %d bytes: %d, %v", width, v, ok)
		}
	}
	if !bytes.Equal(b, []byte{1, 2, 3, 4, 5, 6, 7}) {
		t.Error("Get changes what it is handed")
	}
}

func TestGetOfAWrongWidth(t *testing.T) {
	for _, width := range badWidths {
		for _, b := range [][]byte{nil, {1}, count(100)} {
			if v, ok := Get(b, width); v != 0 || ok {
				t.Errorf("Get of %d bytes of %d: %d, %v", width, len(b), v, ok)
			}
		}
	}
}

func TestWhatIsPutIsGot(t *testing.T) {
	for width := 1; width <= 6; width++ {
		for _, v := range []int{0, 1, 127, 128, 255, most(width) / 2, most(width)/2 + 1, most(width) / 7 * 3, most(width) - 1, most(width)} {
			b := Put([]byte{200, 100}, v, width)
			if len(b) != 2+width || b[0] != 200 || b[1] != 100 {
				t.Fatalf("Put of %d in %d bytes: %v", v, width, b)
			}
			if got, ok := Get(append(b[2:], 99), width); got != v || !ok {
				t.Errorf("%d in %d bytes: %d, %v", v, width, got, ok)
			}
		}
	}
}

func TestPutRow(t *testing.T) {
	for _, c := range []struct {
		b     []byte
		l     []int
		width int
		want  []byte
	}{
		{nil, []int{1, 2}, 1, []byte{0, 2, 1, 2}},
		{[]byte{9}, []int{1, 2}, 1, []byte{9, 0, 2, 1, 2}},
		{[]byte{9}, nil, 1, []byte{9, 0, 0}},
		{[]byte{9}, []int{}, 6, []byte{9, 0, 0}},
		{nil, []int{258, 0, 65535}, 2, []byte{0, 3, 1, 2, 0, 0, 255, 255}},
		{nil, []int{255}, 1, []byte{0, 1, 255}},
		{[]byte{4, 5}, []int{0x010203040506}, 6, []byte{4, 5, 0, 1, 1, 2, 3, 4, 5, 6}},
	} {
		l := slices.Clone(c.l)
		if b := PutRow(c.b, l, c.width); !bytes.Equal(b, c.want) {
			t.Errorf("PutRow(%v, %v, %d) = %v, not %v", c.b, c.l, c.width, b, c.want)
		}
		if !slices.Equal(l, c.l) {
			t.Errorf("PutRow changes the list that it is handed: %v", l)
		}
	}
}

func TestPutRowOfWhatIsNone(t *testing.T) {
	for _, width := range badWidths {
		for _, l := range [][]int{nil, {}, {0}, {1, 2}} {
			if b := PutRow([]byte{8}, l, width); !bytes.Equal(b, []byte{8}) {
				t.Errorf("PutRow of %v in %d bytes: %v", l, width, b)
			}
		}
	}
	for width := 1; width <= 6; width++ {
		for _, bad := range []int{-1, most(width) + 1, math.MinInt, math.MaxInt} {
			for _, l := range [][]int{{bad}, {bad, 1, 2}, {1, bad, 2}, {1, 2, bad}} {
				if b := PutRow([]byte{8}, l, width); !bytes.Equal(b, []byte{8}) {
					t.Errorf("PutRow of %v in %d bytes: %v", l, width, b)
				}
			}
		}
	}
}

func TestLongRows(t *testing.T) {
	l := make([]int, 65536)
	for i := range l {
		l[i] = i % 256
	}
	b := PutRow([]byte{8}, l[:65535], 1)
	if len(b) != 1+2+65535 || b[0] != 8 || b[1] != 255 || b[2] != 255 {
		t.Fatal("PutRow of 65535 numbers", len(b))
	}
	if got, n, ok := Row(b[1:], 1); !slices.Equal(got, l[:65535]) || n != 65537 || !ok {
		t.Error("Row of 65535 numbers", len(got), n, ok)
	}
	if b := PutRow([]byte{8}, l, 1); !bytes.Equal(b, []byte{8}) {
		t.Error("PutRow of 65536 numbers", len(b))
	}
	if b := PutRow(nil, append(l, 1), 1); len(b) != 0 {
		t.Error("PutRow of 65537 numbers", len(b))
	}
}

func TestRow(t *testing.T) {
	for _, c := range []struct {
		b     []byte
		width int
		want  []int
		n     int
	}{
		{[]byte{0, 2, 1, 2}, 1, []int{1, 2}, 4},
		{[]byte{0, 2, 1, 2, 3, 4}, 1, []int{1, 2}, 4},
		{[]byte{0, 2, 1, 2, 3, 4}, 2, []int{258, 772}, 6},
		{[]byte{0, 0}, 1, nil, 2},
		{[]byte{0, 0, 7, 7}, 6, nil, 2},
		{[]byte{0, 1, 1, 2, 3, 4, 5, 6, 7}, 6, []int{0x010203040506}, 8},
		{[]byte{0, 1, 255}, 1, []int{255}, 3},
	} {
		in := slices.Clone(c.b)
		l, n, ok := Row(in, c.width)
		if !slices.Equal(l, c.want) || n != c.n || !ok {
			t.Errorf("Row(%v, %d) = %v, %d, %v", c.b, c.width, l, n, ok)
		}
		if !bytes.Equal(in, c.b) {
			t.Errorf("Row changes what it is handed: %v", in)
		}
	}
}

func TestRowThatIsNone(t *testing.T) {
	noRow := func(b []byte, width int) {
		t.Helper()
		if l, n, ok := Row(b, width); len(l) != 0 || n != 0 || ok {
			t.Errorf("Row of %d bytes by %d: %v, %d, %v", len(b), width, l, n, ok)
		}
	}
	for width := 1; width <= 6; width++ {
		noRow(nil, width)
		noRow([]byte{0}, width)
		noRow([]byte{0, 1}, width)
		noRow([]byte{255, 255, 1, 2, 3}, width)
		whole := PutRow(nil, []int{1, 2, 3}, width)
		for n := range whole {
			noRow(whole[:n], width)
		}
		noRow(append([]byte{1, 0}, count(256*width-1)...), width)
	}
	for _, width := range badWidths {
		noRow(nil, width)
		noRow([]byte{0, 0}, width)
		noRow([]byte{0, 1, 1, 1, 1}, width)
		noRow(append([]byte{0, 2}, count(200)...), width)
	}
}

func TestWhatIsPutInRowsIsGot(t *testing.T) {
	for width := 1; width <= 6; width++ {
		for n := range 300 {
			l := make([]int, n)
			for i := range l {
				l[i] = (i*i*7919 + n) % (most(width) + 1)
			}
			b := PutRow([]byte{1, 2, 3}, l, width)
			if len(b) != 3+2+n*width || !bytes.Equal(b[:3], []byte{1, 2, 3}) {
				t.Fatalf("PutRow of %d numbers by %d: %d bytes", n, width, len(b))
			}
			if got, took, ok := Row(append(b[3:], 4), width); !slices.Equal(got, l) || took != 2+n*width || !ok {
				t.Fatalf("Row of %d numbers by %d: %d, %v", n, width, took, ok)
			}
		}
	}
}

func TestRowAnswersNewMemory(t *testing.T) {
	b := []byte{0, 2, 1, 2}
	first, _, _ := Row(b, 1)
	second, _, _ := Row(b, 1)
	clear(second)
	clear(b)
	if !slices.Equal(first, []int{1, 2}) {
		t.Error("Row shares memory", first)
	}
}

func TestSectors(t *testing.T) {
	for _, c := range []struct{ bytes, want int }{{0, 0}, {1, 1}, {63, 1}, {64, 1}, {65, 2}, {127, 2}, {128, 2}, {129, 3}, {6400, 100}, {6401, 101}} {
		b := count(c.bytes)
		l := Sectors(b)
		if len(l) != c.want {
			t.Errorf("Sectors of %d bytes: %d", c.bytes, len(l))
			continue
		}
		for i := range l {
			for j, x := range l[i] {
				want := byte(0)
				if at := i*64 + j; at < c.bytes {
					want = b[at]
				}
				if x != want {
					t.Fatalf("Sectors of %d bytes: %d at %d of sector %d, not %d", c.bytes, x, j, i, want)
				}
			}
		}
		if !bytes.Equal(b, count(c.bytes)) {
			t.Error("Sectors changes what it is handed")
		}
	}
	if l := Sectors(nil); len(l) != 0 {
		t.Error("Sectors of nothing", len(l))
	}
}

func TestSectorsHaveNoughtsForRoomBehind(t *testing.T) {
	l := Sectors(roomy(1, 2, 3))
	if want := (api.Sector{1, 2, 3}); len(l) != 1 || l[0] != want {
		t.Error(l)
	}
}

func TestBytes(t *testing.T) {
	if b := Bytes(nil); len(b) != 0 {
		t.Error("Bytes of nothing", b)
	}
	if b := Bytes([]api.Sector{}); len(b) != 0 {
		t.Error("Bytes of no sectors", b)
	}
	l := []api.Sector{{1, 2}, {}, {3, 63: 4}}
	want := make([]byte, 3*64)
	want[0], want[1], want[128], want[191] = 1, 2, 3, 4
	if b := Bytes(l); !bytes.Equal(b, want) {
		t.Error(b)
	}
	if l[0] != (api.Sector{1, 2}) || l[1] != (api.Sector{}) || l[2] != (api.Sector{3, 63: 4}) {
		t.Error("Bytes changes what it is handed")
	}
}

func TestBytesOfSectors(t *testing.T) {
	for n := range 400 {
		in := count(n)
		out := Bytes(Sectors(in))
		if len(out) < n || len(out)-n >= 64 || len(out)%64 != 0 || !bytes.Equal(out[:n], in) {
			t.Fatalf("Bytes of Sectors of %d bytes: %d", n, len(out))
		}
		for _, x := range out[n:] {
			if x != 0 {
				t.Fatalf("Bytes of Sectors of %d bytes: not filled up with noughts", n)
			}
		}
	}
}

func TestSectorsAndBytesAnswerNewMemory(t *testing.T) {
	in := count(130)
	l, again := Sectors(in), Sectors(in)
	b, twice := Bytes(l), Bytes(l)
	clear(in)
	clear(again)
	clear(twice)
	if !bytes.Equal(Bytes(l)[:130], count(130)) {
		t.Error("Sectors shares memory")
	}
	clear(l)
	if !bytes.Equal(b[:130], count(130)) {
		t.Error("Bytes shares memory")
	}
}
