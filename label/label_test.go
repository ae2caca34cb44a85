package label

import (
	"math"
	"slices"
	"testing"

	"braidwork/api"
)

const big = 1 << 32

// three is a right label of the member 5, of three members.
func three() api.Label {
	return api.Label{Array: 258, Gen: 7, Member: 5, Blocks: 96, Members: []api.Member{
		{ID: 0, Sectors: 160, State: api.Live},
		{ID: 5, Sectors: 4096, State: api.Failed},
		{ID: 31, Sectors: 300, State: api.Gone},
	}}
}

// many is a right label of n members, the last of which it is of.
func many(n int) api.Label {
	l := api.Label{Array: big - 1, Gen: big - 1, Blocks: 1}
	for i := range n {
		l.Member = i + 2
		l.Members = append(l.Members, api.Member{ID: i + 2, Sectors: 160 + i, State: i % 3})
	}
	return l
}

// same tells whether both labels say the same.
func same(x, y api.Label) bool {
	return x.Array == y.Array && x.Gen == y.Gen && x.Member == y.Member && x.Blocks == y.Blocks && slices.Equal(x.Members, y.Members)
}

// zero tells whether l is the zero value.
func zero(l api.Label) bool { return same(l, api.Label{}) && l.Members == nil }

// number is v in so many bytes, told anew here.
func number(v, width int) []byte {
	b := make([]byte, width)
	for i := range b {
		b[width-1-i] = byte(v)
		v >>= 8
	}
	return b
}

// plainPut is the sector of a label, as the chapter tells it, right or not.
func plainPut(l api.Label) api.Sector {
	b := slices.Concat([]byte{'B', 'W'}, number(l.Array, 4), number(l.Gen, 4), number(l.Member, 1), number(l.Blocks, 2), number(len(l.Members), 1))
	for _, m := range l.Members {
		b = slices.Concat(b, number(m.ID, 1), number(m.Sectors, 2), number(m.State, 1))
	}
	var s api.Sector
	copy(s[:], b)
	return s
}

// goesRound tells that l is right, has this sector, and is read from it.
func goesRound(t *testing.T, l api.Label) {
	t.Helper()
	if !Right(l) {
		t.Errorf("%v is not right", l)
	}
	s, e := Put(l)
	if s != plainPut(l) || e != api.OK {
		t.Errorf("Put of %v: %x, %v, not %x", l, s, e, plainPut(l))
	}
	if got, e := Of(s); !same(got, l) || e != api.OK {
		t.Errorf("Of of it: %v, %v, not %v", got, e, l)
	}
}

// isWrong tells that l is not right, has no sector, and is not saved; and that bytes that say it are none's.
func isWrong(t *testing.T, l api.Label) {
	t.Helper()
	if Right(l) {
		t.Errorf("%v is right", l)
	}
	if s, e := Put(l); s != (api.Sector{}) || e != api.ErrArg {
		t.Errorf("Put of %v: %x, %v", l, s, e)
	}
	b := bankOf(t, 6)
	if e := Save(b, l); e != api.ErrArg || b.Writes() != 0 {
		t.Errorf("Save of %v: %v, %d writes", l, e, b.Writes())
	}
	if fits(l) {
		isNone(t, plainPut(l))
	}
}

// fits tells whether all that l says has room in its bytes.
func fits(l api.Label) bool {
	room := func(v, width int) bool { return v >= 0 && v < 1<<(8*width) }
	ok := room(l.Array, 4) && room(l.Gen, 4) && room(l.Member, 1) && room(l.Blocks, 2) && len(l.Members) <= 12
	for _, m := range l.Members {
		ok = ok && room(m.ID, 1) && room(m.Sectors, 2) && room(m.State, 1)
	}
	return ok
}

// isNone tells that s is no label's.
func isNone(t *testing.T, s api.Sector) {
	t.Helper()
	if l, e := Of(s); !zero(l) || e != api.ErrForm {
		t.Errorf("Of of %x: %v, %v", s, l, e)
	}
}

func TestBytesOfALabel(t *testing.T) {
	want := api.Sector{'B', 'W', 0, 0, 1, 2, 0, 0, 0, 7, 5, 0, 96, 3, 0, 0, 160, 0, 5, 16, 0, 1, 31, 1, 44, 2}
	if s, e := Put(three()); s != want || e != api.OK {
		t.Errorf("%x, %v, not %x", s, e, want)
	}
	if l, e := Of(want); !same(l, three()) || e != api.OK {
		t.Errorf("%v, %v", l, e)
	}
	twelve, e := Put(many(12))
	if e != api.OK || twelve[13] != 12 || [6]byte(twelve[58:]) != [6]byte{13, 0, 171, 2, 0, 0} {
		t.Errorf("%x, %v", twelve, e)
	}
}

func TestNumbersAtAndNextToTheirBounds(t *testing.T) {
	far := []int{math.MinInt, -big, -1, big, big + 1, 2 * big, math.MaxInt}
	bounds := []struct {
		name  string
		at    func(*api.Label) *int
		right []int
		wrong []int
	}{
		{"Array", func(l *api.Label) *int { return &l.Array }, []int{0, 1, 255, 256, 65536, 1 << 31, big - 2, big - 1}, far},
		{"Gen", func(l *api.Label) *int { return &l.Gen }, []int{1, 2, 255, 256, 65536, 1 << 31, big - 2, big - 1}, append(far, 0)},
		{"Blocks", func(l *api.Label) *int { return &l.Blocks }, []int{1, 2, 95, 96}, append(far, 0, 97, 256, 257, 65535, 65536, 65537)},
		{"Member", func(l *api.Label) *int { return &l.Member }, []int{0, 5, 31}, append(far, 1, 2, 3, 4, 6, 30, 32, 255, 256, 261)},
		{"the first Sectors", func(l *api.Label) *int { return &l.Members[0].Sectors }, []int{160, 161, 255, 256, 4095, 4096}, append(far, 0, 1, 159, 4097, 65535, 65536+160)},
		{"the last Sectors", func(l *api.Label) *int { return &l.Members[2].Sectors }, []int{160, 161, 4095, 4096}, append(far, 0, 1, 159, 4097, 65535, 65536+160)},
		{"the first State", func(l *api.Label) *int { return &l.Members[0].State }, []int{0, 1, 2}, append(far, 3, 4, 255, 256, 257)},
		{"the last State", func(l *api.Label) *int { return &l.Members[2].State }, []int{0, 1, 2}, append(far, 3, 4, 255, 256, 257)},
		{"the first ID", func(l *api.Label) *int { return &l.Members[0].ID }, []int{0, 1, 4}, append(far, 5, 6, 31, 32, 255, 256)},
		{"the middle ID", func(l *api.Label) *int { l.Member = 0; return &l.Members[1].ID }, []int{1, 2, 29, 30}, append(far, 0, 31, 32, 255, 256)},
		{"the last ID", func(l *api.Label) *int { return &l.Members[2].ID }, []int{6, 7, 30, 31}, append(far, 0, 4, 5, 32, 33, 255, 256, 256+6)},
	}
	for _, x := range bounds {
		for _, v := range x.right {
			l := three()
			*x.at(&l) = v
			goesRound(t, l)
		}
		for _, v := range x.wrong {
			l := three()
			*x.at(&l) = v
			isWrong(t, l)
		}
	}
}

func TestHowManyMembers(t *testing.T) {
	for n := range 40 {
		l := many(n)
		switch {
		case n >= 3 && n <= 12:
			goesRound(t, l)
		default:
			isWrong(t, l)
		}
	}
	none := three()
	none.Members = nil
	isWrong(t, none)
	isWrong(t, api.Label{})
	long := three()
	long.Members = make([]api.Member, 65536)
	isWrong(t, long)
}

func TestMembersOutOfOrder(t *testing.T) {
	l := three()
	slices.Reverse(l.Members)
	isWrong(t, l)
	l = many(12)
	for i := range 11 {
		x := many(12)
		x.Members[i], x.Members[i+1] = x.Members[i+1], x.Members[i]
		isWrong(t, x)
		x = many(12)
		x.Members[i].ID++
		isWrong(t, x)
	}
	goesRound(t, l)
}

func TestEachMemberIsLookedAt(t *testing.T) {
	for i := range 12 {
		l := many(12)
		l.Members[i].Sectors = 159
		isWrong(t, l)
		l = many(12)
		l.Members[i].State = 3
		isWrong(t, l)
		l = many(12)
		l.Member = l.Members[i].ID
		goesRound(t, l)
	}
}

func TestSectorsThatAreNone(t *testing.T) {
	isNone(t, api.Sector{})
	isNone(t, api.Sector{'B', 'W'})
	full := api.Sector{}
	for i := range full {
		full[i] = 0xff
	}
	isNone(t, full)
	for _, letters := range []string{"\x00\x00", "bw", "WB", "B\x00", "\x00W"} {
		s := plainPut(three())
		copy(s[:], letters)
		isNone(t, s)
	}
}

// A byte more or less says another label, or none; which of both, is told by the label's own bytes.
func TestOneOtherByte(t *testing.T) {
	for _, l := range []api.Label{three(), many(3), many(11), many(12)} {
		s := plainPut(l)
		for at := range s {
			for v := range 256 {
				x := s
				x[at] = byte(v)
				if x != s {
					otherByte(t, l, x, at)
				}
			}
		}
	}
}

// otherByte tells what x is, which differs from the sector of l at one byte.
func otherByte(t *testing.T, l api.Label, x api.Sector, at int) {
	t.Helper()
	behind := 14 + 4*len(l.Members)
	if at < 2 || at == 13 || at >= behind {
		isNone(t, x)
		return
	}
	want := api.Label{Array: value(x[2:6]), Gen: value(x[6:10]), Member: value(x[10:11]), Blocks: value(x[11:13])}
	for i := 14; i < behind; i += 4 {
		want.Members = append(want.Members, api.Member{ID: value(x[i : i+1]), Sectors: value(x[i+1 : i+3]), State: value(x[i+3 : i+4])})
	}
	if !Right(want) {
		isNone(t, x)
		return
	}
	if got, e := Of(x); !same(got, want) || e != api.OK {
		t.Errorf("Of of %x: %v, %v, not %v", x, got, e, want)
	}
}

func value(b []byte) int {
	v := 0
	for _, x := range b {
		v = 256*v + int(x)
	}
	return v
}

func TestACountThatTheSectorHasNoRoomFor(t *testing.T) {
	for n := 13; n < 256; n++ {
		s := plainPut(many(12))
		s[13] = byte(n)
		isNone(t, s)
		for i := 62; i < 64; i++ {
			s[i] = 14
		}
		isNone(t, s)
	}
}

func TestNothingIsKeptOrShared(t *testing.T) {
	l := three()
	s, _ := Put(l)
	if !same(l, three()) {
		t.Error("Put writes over what it is handed")
	}
	first, _ := Of(s)
	first.Members[1].State = api.Gone
	if second, e := Of(s); !same(second, three()) || e != api.OK {
		t.Errorf("%v, %v", second, e)
	}
	b := bankOf(t, 6)
	if e := Save(b, l); e != api.OK || !same(l, three()) {
		t.Error("Save writes over what it is handed")
	}
	l.Members[0].Sectors = 999
	loaded, _ := Load(b, 5)
	loaded.Members[2].ID = 30
	loads(t, b, three())
}
