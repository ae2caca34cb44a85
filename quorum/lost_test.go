package quorum

import (
	"math"
	"reflect"
	"slices"
	"testing"

	"braidwork/api"
	"braidwork/label"
)

// becomes tells that Lost answers this label.
func becomes(t *testing.T, l api.Label, id int, want api.Label) {
	t.Helper()
	before := clone(l)
	if got, e := Lost(l, id); !reflect.DeepEqual(got, want) || e != api.OK {
		t.Errorf("Lost of %v, %d: %v, %v, not %v", l, id, got, e, want)
	}
	if !reflect.DeepEqual(l, before) {
		t.Errorf("Lost has made %v of %v", l, before)
	}
}

// stays tells that Lost answers this error, and nothing else.
func stays(t *testing.T, l api.Label, id int, want api.Errno) {
	t.Helper()
	before := clone(l)
	if got, e := Lost(l, id); !reflect.DeepEqual(got, api.Label{}) || e != want {
		t.Errorf("Lost of %v, %d: %v, %v, not %v", l, id, got, e, want)
	}
	if !reflect.DeepEqual(l, before) {
		t.Errorf("Lost has made %v of %v", l, before)
	}
}

func TestLostOfEachMember(t *testing.T) {
	for n := api.MinDisks; n <= api.MaxDisks; n++ {
		l := config(n)
		for i, m := range l.Members {
			for _, own := range l.Members { // also of the one that has failed
				becomes(t, by(l, own.ID), m.ID, at(with(by(l, own.ID), i, api.Failed), 6))
			}
		}
	}
}

func TestLostInWords(t *testing.T) {
	l := api.Label{Array: 0, Gen: 1, Member: 31, Blocks: 1, Members: []api.Member{
		{ID: 2, Sectors: 160, State: api.Gone}, {ID: 5, Sectors: 4096}, {ID: 31, Sectors: 300},
	}}
	want := api.Label{Array: 0, Gen: 2, Member: 31, Blocks: 1, Members: []api.Member{
		{ID: 2, Sectors: 160, State: api.Gone}, {ID: 5, Sectors: 4096, State: api.Failed}, {ID: 31, Sectors: 300},
	}}
	becomes(t, l, 5, want)
	stays(t, l, 2, api.ErrState)
	stays(t, want, 5, api.ErrState)
	stays(t, want, 31, api.ErrFailed)
}

func TestLostOfWhatIsNotRight(t *testing.T) {
	for _, x := range wrongOnes() {
		for _, id := range []int{0, 3, 4, 6, 9, 32, -1} {
			stays(t, x, id, api.ErrArg)
		}
		if len(x.Members) > 2 { // ahead of all other errors
			stays(t, with(x, 0, api.Failed), x.Members[0].ID, api.ErrArg)
			stays(t, with(x, 0, api.Failed), x.Members[1].ID, api.ErrArg)
		}
	}
}

func TestLostOfAMemberThatThereIsNot(t *testing.T) {
	l := config(4)
	for _, id := range []int{math.MinInt, -9, -1, 1, 2, 4, 5, 7, 8, 10, 12, 31, 32, 256, 259, 1 << 32, math.MaxInt} {
		stays(t, l, id, api.ErrArg)
		stays(t, with(l, 0, api.Failed), id, api.ErrArg)
		stays(t, at(l, greatest), id, api.ErrArg)
	}
}

// Each of four members in each of the states.
func TestLostInAllStates(t *testing.T) {
	for states := range 81 {
		l, failed := config(4), 0
		for i := range 4 {
			l.Members[i].State = states / power(3, i) % 3
			if l.Members[i].State == api.Failed {
				failed++
			}
		}
		for i, m := range l.Members {
			last := at(l, greatest)
			switch {
			case m.State != api.Live:
				stays(t, l, m.ID, api.ErrState)
				stays(t, last, m.ID, api.ErrState)
			case failed > 0:
				stays(t, l, m.ID, api.ErrFailed)
				stays(t, last, m.ID, api.ErrFailed)
			default:
				becomes(t, l, m.ID, at(with(l, i, api.Failed), 6))
				stays(t, last, m.ID, api.ErrRange)
			}
		}
	}
}

func TestGenAtAndNextToItsEnd(t *testing.T) {
	l := config(4)
	for _, gen := range []int{1, 2, 255, 256, 65535, 1<<31 - 1, 1 << 31, greatest - 2, greatest - 1} {
		becomes(t, at(l, gen), 6, at(with(l, 2, api.Failed), gen+1))
	}
	stays(t, at(l, greatest), 6, api.ErrRange)
	stays(t, at(l, greatest+1), 6, api.ErrArg)
	stays(t, at(l, math.MaxInt), 6, api.ErrArg)
}

func TestLostSharesNothing(t *testing.T) {
	l := config(4)
	l.Members = l.Members[:3:4] // what stands behind these is not Lost's
	l.Members[:4][3].State = api.Failed
	all := slices.Clone(l.Members[:4])
	got, e := Lost(l, 3)
	want := at(with(l, 1, api.Failed), 6)
	if !reflect.DeepEqual(got, want) || e != api.OK {
		t.Fatal(got, e)
	}
	got.Members = append(got.Members, api.Member{ID: 31})
	clear(got.Members)
	if !slices.Equal(l.Members[:4], all) {
		t.Errorf("%v has become %v", all, l.Members[:4])
	}
	becomes(t, l, 3, want)
	got, _ = Lost(l, 3)
	clear(l.Members)
	if !reflect.DeepEqual(got, want) {
		t.Errorf("%v has become %v", want, got)
	}
}

// What Lost answers is a label again, which may be laid down.
func TestTheNextOneHasASector(t *testing.T) {
	next, e := Lost(config(12), 22)
	if e != api.OK {
		t.Fatal(e)
	}
	s, e := label.Put(next)
	if e != api.OK {
		t.Fatal(e)
	}
	if back, e := label.Of(s); !reflect.DeepEqual(back, next) || e != api.OK {
		t.Errorf("%v, %v, not %v", back, e, next)
	}
}
