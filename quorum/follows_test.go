package quorum

import (
	"math"
	"reflect"
	"testing"

	"braidwork/api"
	"braidwork/disk"
	"braidwork/label"
)

// bank has a disk for each ID up to the last member's, and on the members' ones their labels.
func bank(t *testing.T, l api.Label) *disk.Bank {
	t.Helper()
	b := disk.NewBank()
	for range l.Members[len(l.Members)-1].ID + 1 {
		if _, e := b.Add(160); e != api.OK {
			t.Fatal(e)
		}
	}
	saveAll(b, l)
	return b
}

// saveAll saves a label on all members that let it, one behind the other, till power fails.
func saveAll(b *disk.Bank, l api.Label) {
	for _, x := range every(l) {
		if b.Up() {
			label.Save(b, x)
		}
	}
}

// loadAll is the labels of the members that can be read.
func loadAll(b *disk.Bank) []api.Label {
	var all []api.Label
	for d := range b.Count() {
		if l, e := label.Load(b, d); e == api.OK {
			all = append(all, l)
		}
	}
	return all
}

var masks = []uint64{0, 1, 2, 0x5555555555555555, math.MaxUint64}

// However many members have the older one of two configurations, the newer one counts, if one has it.
func TestTheNewerOneCountsIfOneHasIt(t *testing.T) {
	for n := api.MinDisks; n <= api.MaxDisks; n++ {
		old := config(n)
		next, e := Lost(old, old.Members[1].ID)
		if e != api.OK {
			t.Fatal(e)
		}
		for has := range 1 << n {
			var l []api.Label
			var want api.Label
			for i, m := range old.Members {
				x := by(old, m.ID)
				if has>>i&1 == 1 {
					x = by(next, m.ID)
				}
				if x.Gen > want.Gen {
					want = x
				}
				l = append(l, x)
			}
			if got, missing, e := Choose(l); !reflect.DeepEqual(got, want) || len(missing) != 0 || e != api.OK {
				t.Fatalf("%d members, %b: %v, %v, %v, not %v", n, has, got, missing, e, want)
			}
		}
	}
}

// Power fails at each write while the next configuration is laid down, which tells that a member has failed.
func TestPowerFailsWhileTheNextOneIsSaved(t *testing.T) {
	old := config(5)
	for _, m := range old.Members {
		next, e := Lost(old, m.ID)
		if e != api.OK {
			t.Fatal(e)
		}
		for write := 1; write <= len(old.Members)+1; write++ {
			for _, mask := range masks {
				b := bank(t, old)
				b.Fail(m.ID)
				b.Arm(write, mask)
				saveAll(b, next)
				b.Crash(mask)
				b.Start()
				all := loadAll(b)
				got, missing, e := Choose(all)
				newer := false
				for _, x := range all {
					newer = newer || x.Gen == next.Gen
				}
				switch {
				case e != api.OK:
					t.Errorf("the member %d, the write %d: %v", m.ID, write, e)
				case newer && (!reflect.DeepEqual(by(got, 0), next) || len(missing) != 0):
					t.Errorf("the member %d, the write %d: %v, %v, not %v", m.ID, write, got, missing, next)
				case !newer && (!reflect.DeepEqual(by(got, 0), old) || len(missing) != 1 || missing[0] != m.ID):
					t.Errorf("the member %d, the write %d: %v, %v, not %v", m.ID, write, got, missing, old)
				}
			}
		}
	}
}

// A member fails, what is left goes on without it, and each next one that fails is missing till it is told.
func TestOneMemberBehindTheOther(t *testing.T) {
	l := config(5)
	b := bank(t, l)
	for _, id := range []int{6, 0, 12} {
		b.Fail(id)
		got, missing, e := Choose(loadAll(b))
		if e != api.OK || len(missing) != 1 || missing[0] != id || got.Gen != l.Gen {
			t.Fatal(got, missing, e)
		}
		if l, e = Lost(got, missing[0]); e != api.OK {
			t.Fatal(e)
		}
		saveAll(b, l)
		if got, missing, e = Choose(loadAll(b)); e != api.OK || len(missing) != 0 || got.Gen != l.Gen {
			t.Fatal(got, missing, e)
		}
		// What the lost member had is made anew: it is Gone.
		for i, m := range l.Members {
			if m.ID == id {
				l.Members[i].State = api.Gone
			}
		}
		l.Gen++
		saveAll(b, l)
	}
	b.Fail(3)
	b.Fail(9)
	refuses(t, loadAll(b), api.ErrNone)
}
