package quorum

import (
	"math/rand"
	"reflect"
	"slices"
	"testing"

	"braidwork/api"
	"braidwork/label"
)

const greatest = 1<<32 - 1 // Array and Gen have four bytes

// config is a label of the member 0 of an array with so many members, whose IDs are 0, 3, 6 and so on, or 0, 2, 4.. if there are many; all of them Live.
func config(n int) api.Label {
	l := api.Label{Array: 7, Gen: 5, Blocks: 96}
	for i := range n {
		id := 3 * i
		if n > 10 {
			id = 2 * i
		}
		l.Members = append(l.Members, api.Member{ID: id, Sectors: 160 + i})
	}
	return l
}

// by is this label as the member of this ID has it.
func by(l api.Label, id int) api.Label {
	l = clone(l)
	l.Member = id
	return l
}

// at is this label with another Gen.
func at(l api.Label, gen int) api.Label {
	l = clone(l)
	l.Gen = gen
	return l
}

// with is this label with the i-th member in another state.
func with(l api.Label, i, state int) api.Label {
	l = clone(l)
	l.Members[i].State = state
	return l
}

func clone(l api.Label) api.Label {
	l.Members = slices.Clone(l.Members)
	return l
}

func cloneAll(l []api.Label) []api.Label {
	c := make([]api.Label, len(l))
	for i := range l {
		c[i] = clone(l[i])
	}
	return c
}

// heard is the labels of these members.
func heard(l api.Label, ids ...int) []api.Label {
	var all []api.Label
	for _, id := range ids {
		all = append(all, by(l, id))
	}
	return all
}

// every is the labels of all members.
func every(l api.Label) []api.Label {
	var all []api.Label
	for _, m := range l.Members {
		all = append(all, by(l, m.ID))
	}
	return all
}

// chooses tells that this label counts, and these members of it are missing.
func chooses(t *testing.T, l []api.Label, want api.Label, missing ...int) {
	t.Helper()
	before := cloneAll(l)
	got, m, e := Choose(l)
	if !reflect.DeepEqual(got, want) || !slices.Equal(m, missing) || e != api.OK {
		t.Errorf("Choose of %v: %v, %v, %v, not %v, %v", l, got, m, e, want, missing)
	}
	if !reflect.DeepEqual(cloneAll(l), before) {
		t.Errorf("Choose has made %v of %v", l, before)
	}
}

// refuses tells that Choose answers this error, and nothing else.
func refuses(t *testing.T, l []api.Label, want api.Errno) {
	t.Helper()
	before := cloneAll(l)
	got, m, e := Choose(l)
	if !reflect.DeepEqual(got, api.Label{}) || len(m) != 0 || e != want {
		t.Errorf("Choose of %v: %v, %v, %v, not %v", l, got, m, e, want)
	}
	if !reflect.DeepEqual(cloneAll(l), before) {
		t.Errorf("Choose has made %v of %v", l, before)
	}
}

// wrongOnes are labels that are not right, each in one thing.
func wrongOnes() []api.Label {
	l := config(4)
	made := func(change func(*api.Label)) api.Label {
		x := at(by(l, 3), greatest)
		change(&x)
		return x
	}
	return []api.Label{
		{},
		made(func(x *api.Label) { x.Array = -1 }),
		made(func(x *api.Label) { x.Array = greatest + 1 }),
		made(func(x *api.Label) { x.Gen = 0 }),
		made(func(x *api.Label) { x.Gen = -1 }),
		made(func(x *api.Label) { x.Gen = greatest + 1 }),
		made(func(x *api.Label) { x.Blocks = 0 }),
		made(func(x *api.Label) { x.Blocks = 97 }),
		made(func(x *api.Label) { x.Members = nil }),
		made(func(x *api.Label) { x.Members = x.Members[:2] }),
		made(func(x *api.Label) { x.Members = thirteen() }),
		made(func(x *api.Label) { x.Members[2].Sectors = 159 }),
		made(func(x *api.Label) { x.Members[2].Sectors = 4097 }),
		made(func(x *api.Label) { x.Members[2].State = 3 }),
		made(func(x *api.Label) { x.Members[2].State = -1 }),
		made(func(x *api.Label) { x.Members[3].ID = 32 }),
		made(func(x *api.Label) { x.Members[0].ID = -1 }),
		made(func(x *api.Label) { x.Members[2], x.Members[3] = x.Members[3], x.Members[2] }),
		made(func(x *api.Label) { x.Member = 4 }),
		made(func(x *api.Label) { x.Member = -1 }),
	}
}

// thirteen is one member more than there may be, each of them a right one.
func thirteen() []api.Member {
	var l []api.Member
	for i := range api.MaxDisks + 1 {
		l = append(l, api.Member{ID: i, Sectors: 160})
	}
	return l
}

func TestTheExamples(t *testing.T) {
	l := config(3)
	chooses(t, heard(l, 0, 3), l, 6)
	refuses(t, heard(l, 0), api.ErrFailed)
}

func TestNoneIsRight(t *testing.T) {
	refuses(t, nil, api.ErrNone)
	refuses(t, []api.Label{}, api.ErrNone)
	refuses(t, wrongOnes(), api.ErrNone)
	for _, x := range wrongOnes() {
		refuses(t, []api.Label{x}, api.ErrNone)
	}
}

// What is not right does not count as the newest one, nor as one that is unlike it, nor as its member's.
func TestThoseThatAreNotRightDoNotMatter(t *testing.T) {
	l := config(4)
	for _, x := range wrongOnes() {
		for _, gen := range []int{x.Gen, l.Gen, l.Gen - 1} {
			x := x
			if x.Gen == greatest {
				x.Gen = gen
			}
			chooses(t, append([]api.Label{x}, heard(l, 0, 6, 9)...), by(l, 0), 3)
			chooses(t, append(heard(l, 9, 6, 0), x), by(l, 9), 3)
			chooses(t, append(every(l), x, x), by(l, 0))
			refuses(t, append(heard(l, 0, 6), x), api.ErrFailed)
		}
	}
}

func TestNoneOneOrMoreAreMissing(t *testing.T) {
	for n := api.MinDisks; n <= api.MaxDisks; n++ {
		l := config(n)
		all := every(l)
		chooses(t, all, all[0])
		for i := range n {
			chooses(t, slices.Delete(cloneAll(all), i, i+1), all[max(0, 1-i)], l.Members[i].ID)
			for k := range i {
				refuses(t, slices.Delete(slices.Delete(cloneAll(all), i, i+1), k, k+1), api.ErrFailed)
			}
		}
		for i := range n {
			refuses(t, all[i:i+1], api.ErrFailed)
		}
	}
}

// Which member is missing hangs on its ID, not on where it stands; 31 is the last ID that there is.
func TestMissingIsAnID(t *testing.T) {
	l := config(3)
	l.Members[0].ID, l.Members[1].ID, l.Members[2].ID = 1, 30, 31
	chooses(t, heard(l, 31, 1), by(l, 31), 30)
	chooses(t, heard(l, 30, 31), by(l, 30), 1)
	chooses(t, heard(l, 1, 30), by(l, 1), 31)
	l.Members[0].ID, l.Members[1].ID, l.Members[2].ID = 0, 1, 2
	chooses(t, heard(l, 2, 1), by(l, 2), 0)
}

func TestOnlyLiveMembersAreMissing(t *testing.T) {
	for _, state := range []int{api.Failed, api.Gone} {
		l := with(config(4), 2, state)
		chooses(t, heard(l, 0, 3, 9), l)
		chooses(t, every(l), l)
		chooses(t, heard(l, 0, 9), l, 3)
		chooses(t, heard(l, 6, 9, 0), by(l, 6), 3)
		refuses(t, heard(l, 0), api.ErrFailed)
		refuses(t, heard(l, 6, 0), api.ErrFailed)
	}
	// If no member is Live, or one alone, there is not more than one that may be missing.
	l := with(with(with(config(3), 0, api.Gone), 1, api.Failed), 2, api.Gone)
	for _, m := range l.Members {
		chooses(t, heard(l, m.ID), by(l, m.ID))
	}
	l = with(l, 1, api.Live)
	chooses(t, heard(l, 0), l, 3)
	chooses(t, heard(l, 3), by(l, 3))
	chooses(t, heard(l, 6, 0), by(l, 6), 3)
}

func TestTheGreatestGenCounts(t *testing.T) {
	for _, pair := range [][2]int{{1, 2}, {1, greatest}, {greatest - 1, greatest}, {255, 256}, {65535, 65536}, {1<<31 - 1, 1 << 31}} {
		older, newer := at(config(4), pair[0]), at(with(config(4), 0, api.Failed), pair[1])
		for i := range 4 {
			all := every(older)
			all[i] = by(newer, 3*i)
			chooses(t, all, all[i])
			slices.Reverse(all)
			chooses(t, all, by(newer, 3*i))
		}
	}
}

// Older labels tell nothing but that their member can be read.
func TestOlderLabelsMayBeOfAnyKind(t *testing.T) {
	l := config(4)
	older := at(l, l.Gen-1)
	unlike := at(l, l.Gen-1)
	unlike.Blocks = 3
	short := at(config(3), 1)
	for _, rest := range [][]api.Label{
		{by(older, 3), by(older, 6), by(older, 9)},
		{by(older, 3), by(unlike, 6), by(short, 6), by(older, 9)},
		{by(short, 3), by(short, 6), by(with(older, 0, api.Gone), 9)},
	} {
		chooses(t, append(heard(l, 0), rest...), l)
		chooses(t, append(cloneAll(rest), l), l)
		chooses(t, append(heard(l, 0), rest[1:]...), l, 3)
		refuses(t, append(heard(l, 0), rest[len(rest)-1]), api.ErrFailed)
	}
	// A member of the older one alone is none of the newer one's.
	more := at(config(5), 1)
	chooses(t, append(every(l), by(more, 12)), l)
	refuses(t, append(heard(l, 0, 3), by(more, 12)), api.ErrFailed)
	// And a member that is not Live in the older one is, if it is so in the newer one.
	chooses(t, append(heard(l, 0), heard(with(older, 2, api.Failed), 3, 9)...), l, 6)
}

func TestTheFirstOfTheNewest(t *testing.T) {
	l := config(4)
	older := at(l, 4)
	chooses(t, append(heard(older, 0, 3), heard(l, 9, 6, 0)...), by(l, 9))
	chooses(t, []api.Label{by(older, 9), by(l, 6), by(older, 0), by(l, 3)}, by(l, 6))
	chooses(t, []api.Label{by(older, 9), by(l, 3), by(older, 0), by(l, 6), by(l, 3)}, by(l, 3))
}

func TestAMembersLabelMoreThanOnce(t *testing.T) {
	l := config(3)
	refuses(t, heard(l, 0, 0, 0), api.ErrFailed)
	chooses(t, heard(l, 3, 3, 0, 0), by(l, 3), 6)
	chooses(t, append(heard(l, 3, 0), by(at(l, 1), 3), by(at(l, 2), 3)), by(l, 3), 6)
	chooses(t, []api.Label{by(at(l, 4), 0), l, by(at(l, 3), 0), by(l, 6)}, l, 3)
}

// changes are what makes a label another one beside its Member, one thing each.
func changes() []func(*api.Label) {
	return []func(*api.Label){
		func(x *api.Label) { x.Array++ },
		func(x *api.Label) { x.Blocks-- },
		func(x *api.Label) { x.Members[3].Sectors++ },
		func(x *api.Label) { x.Members[0].Sectors++ },
		func(x *api.Label) { x.Members[1].State = api.Failed },
		func(x *api.Label) { x.Members[3].State = api.Gone },
		func(x *api.Label) { x.Members[3].ID++ },
		func(x *api.Label) { x.Members[1].ID++ },
		func(x *api.Label) { x.Members = append(x.Members, api.Member{ID: 31, Sectors: 160}) },
		func(x *api.Label) { x.Members = x.Members[:3] },
		func(x *api.Label) { x.Members = slices.Delete(x.Members, 1, 2) },
	}
}

func TestTheNewestAreUnlike(t *testing.T) {
	l := config(4)
	for i, change := range changes() {
		unlike := by(l, 6)
		change(&unlike)
		if !label.Right(unlike) {
			t.Fatalf("the change %d: %v is not right", i, unlike)
		}
		rows := [][]api.Label{
			{l, unlike},
			{unlike, l},
			{l, by(l, 3), by(l, 6), by(l, 9), unlike},
			{unlike, l, by(l, 3), by(l, 6), by(l, 9)},
			{by(at(l, 4), 3), l, by(l, 9), by(at(l, 1), 6), unlike, by(at(l, 4), 3)},
			{l, by(unlike, 0)}, // of one member
		}
		for _, row := range rows {
			refuses(t, row, api.ErrForm)
		}
		// An older one may be unlike, whatever it tells of; but one of another array is no label of its member.
		older := at(unlike, 4)
		if unlike.Array == l.Array {
			chooses(t, append(heard(l, 0, 3, 9), older), l)
		} else {
			chooses(t, append(heard(l, 0, 3, 9), older), l, 6)
		}
		// And a newer one makes that alike what was not.
		newer := at(l, l.Gen+1)
		chooses(t, append(every(newer), l, unlike), newer)
	}
}

func TestLabelsOfAnotherArray(t *testing.T) {
	l := config(3)
	other := at(l, 4)
	other.Array = 8
	chooses(t, append(heard(other, 6), heard(l, 0, 3)...), l, 6)
	chooses(t, append(every(other), every(l)...), l)
	refuses(t, append(every(other), l), api.ErrFailed)
	// The other one's count, if they are newer.
	other.Gen = 6
	chooses(t, append(every(l), heard(other, 6, 3)...), by(other, 6), 0)
	refuses(t, append(every(l), other), api.ErrFailed)
	// Both are the newest.
	other.Gen = l.Gen
	refuses(t, append(every(l), other), api.ErrForm)
	refuses(t, append(every(other), every(l)...), api.ErrForm)
	for _, number := range []int{0, greatest} {
		own := clone(l)
		own.Array = number
		chooses(t, append(every(at(l, 4)), heard(own, 0, 6)...), own, 3)
	}
}

// plainChoose tells the chapter anew: of lists of right labels alone.
func plainChoose(l []api.Label) (api.Label, []int, api.Errno) {
	gen := 0
	for _, x := range l {
		gen = max(gen, x.Gen)
	}
	var newest []api.Label
	for _, x := range l {
		if x.Gen == gen {
			newest = append(newest, x)
		}
	}
	if len(newest) == 0 {
		return api.Label{}, nil, api.ErrNone
	}
	for _, x := range newest {
		for _, y := range newest {
			if !reflect.DeepEqual(by(x, 0), by(y, 0)) {
				return api.Label{}, nil, api.ErrForm
			}
		}
	}
	there := map[int]bool{}
	for _, x := range l {
		if x.Array == newest[0].Array {
			there[x.Member] = true
		}
	}
	var missing []int
	for id := range 32 {
		if slices.ContainsFunc(newest[0].Members, func(m api.Member) bool { return m.ID == id && m.State == 0 }) && !there[id] {
			missing = append(missing, id)
		}
	}
	if len(missing) > 1 {
		return api.Label{}, nil, api.ErrFailed
	}
	return newest[0], missing, api.OK
}

// Each of four members is not heard, or has the older configuration, or the newer one; in each of the states.
func TestEachMemberOlderOrNewerOrNotHeard(t *testing.T) {
	const none, older, newer = 0, 1, 2
	for states := range 81 {
		old, next := at(config(4), 8), at(config(4), 9)
		for i := range 4 {
			next.Members[i].State = states / power(3, i) % 3
		}
		for has := range 81 {
			var l []api.Label
			for i := range 4 {
				switch has / power(3, i) % 3 {
				case older:
					l = append(l, by(old, 3*i))
				case newer:
					l = append(l, by(next, 3*i))
				}
			}
			agrees(t, l)
			slices.Reverse(l)
			agrees(t, l)
		}
	}
}

func power(b, n int) int {
	v := 1
	for range n {
		v *= b
	}
	return v
}

// agrees tells that Choose answers what the chapter says.
func agrees(t *testing.T, l []api.Label) {
	t.Helper()
	want, missing, e := plainChoose(l)
	if e != api.OK {
		refuses(t, l, e)
		return
	}
	chooses(t, l, want, missing...)
}

func TestRowsOfAllKinds(t *testing.T) {
	r := rand.New(rand.NewSource(5))
	told := map[api.Errno]int{}
	for range 20000 {
		l := config(3 + r.Intn(3))
		for i := range l.Members {
			l.Members[i].State = max(0, r.Intn(6)-3)
		}
		var row []api.Label
		for range r.Intn(10) {
			x := by(l, 3*r.Intn(len(l.Members)))
			x.Gen = 1 + r.Intn(3)
			if r.Intn(12) == 0 {
				x.Array++
			}
			if r.Intn(12) == 0 {
				x.Members[r.Intn(len(x.Members))].State = r.Intn(3)
			}
			row = append(row, x)
		}
		agrees(t, row)
		_, _, e := Choose(row)
		told[e]++
	}
	for _, e := range []api.Errno{api.OK, api.ErrForm, api.ErrFailed, api.ErrNone} {
		if told[e] < 100 {
			t.Errorf("%v: %d times alone", e, told[e])
		}
	}
}

func TestManyLabels(t *testing.T) {
	l := config(12)
	many := make([]api.Label, 0, 100000)
	for i := range cap(many) {
		many = append(many, at(by(l, l.Members[i%11].ID), 1+i))
	}
	want := many[len(many)-1]
	chooses(t, many, want, 22)
}

// What is answered is the caller's, and what was handed in its owner's: either may be written over.
func TestChooseSharesNothing(t *testing.T) {
	l := config(4)
	row := append(append(wrongOnes(), heard(l, 3, 0)...), by(at(l, 1), 6), by(at(l, greatest), 9))
	before := cloneAll(row)
	got, missing, e := Choose(row[:len(row)-1]) // the last one is not looked at, nor written over
	if e != api.OK || !reflect.DeepEqual(got, by(l, 3)) || !slices.Equal(missing, []int{9}) {
		t.Fatal(got, missing, e)
	}
	got.Members = append(got.Members, api.Member{ID: 31})
	for i := range got.Members {
		got.Members[i] = api.Member{ID: 30}
	}
	missing[0] = 8
	if !reflect.DeepEqual(row, before) {
		t.Errorf("%v has become %v", before, row)
	}
	chooses(t, row[:len(row)-1], by(l, 3), 9)
	got, _, _ = Choose(row[:len(row)-1])
	for _, x := range row {
		clear(x.Members)
	}
	if !reflect.DeepEqual(got, by(l, 3)) {
		t.Errorf("%v has become %v", by(l, 3), got)
	}
}
