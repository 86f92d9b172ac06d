package replica

import (
	"math/rand"
	"reflect"
	"slices"
	"testing"

	"reunion/api"
	"reunion/times"
)

// twin is a replica like r that shares nothing with it.
func twin(r *Replica) *Replica {
	other := New(r.self)
	other.common = r.common
	for path, rec := range r.records {
		other.records[path] = rec
	}
	return other
}

// mustPull is r behind a pull of all.
func mustPull(t *testing.T, r *Replica, from *Replica) *Replica {
	t.Helper()
	after, _, e := r.Pulled(from)
	if after == nil || e != api.OK {
		t.Fatalf("P5: Pulled = %v, %d", after, e)
	}
	return after
}

func wantRecord(t *testing.T, r *Replica, path string, want record) {
	t.Helper()
	if got := r.recordOf(path); got != want {
		t.Errorf("P5: record of %q: %+v, want %+v", path, got, want)
	}
}

func wantRecords(t *testing.T, r *Replica, want ...string) {
	t.Helper()
	if got := pathsOf(r); !slices.Equal(got, want) {
		t.Errorf("P5: records of %q, want %q", got, want)
	}
}

func TestPulledHearsTheCommonTime(t *testing.T) {
	to, from := New(0), New(1)
	to.common = times.Time{3, 1, 7}
	from.common = times.Time{2, 5, 4}
	after := mustPull(t, to, from)
	if after.common != (times.Time{3, 5, 7}) {
		t.Errorf("P5: common time behind a pull: %v", after.common)
	}
	wantRecord(t, after, "never", none(times.Time{3, 5, 7}))
	wantRecords(t, after)
}

func TestPulledDropsWhatIsJustCommon(t *testing.T) {
	to, from := New(0), New(1)
	to.common = times.Time{3, 1}
	from.common = times.Time{2, 5}
	to.keep("ahead", none(times.Time{3, 9}))
	to.keep("caught", none(times.Time{3, 4}))
	from.keep("theirs", none(times.Time{3, 5}))
	from.keep("behind", none(times.Time{0, 5, 1}))
	after := mustPull(t, to, from)
	wantRecords(t, after, "ahead", "behind")
	wantRecord(t, after, "ahead", none(times.Time{3, 9}))
	wantRecord(t, after, "behind", none(times.Time{3, 5, 1}))
}

func TestPulledKeepsWhatIsKnownOfAConflict(t *testing.T) {
	to, from := New(0), New(1)
	to.common = times.Time{3, 2}
	from.common = times.Time{0, 5}
	changed := born("changed", 1, 1, times.Time{0, 5})
	from.keep("gone", one(changed, from.common))
	mine := born("mine", 0, 3, times.Time{3})
	to.keep("strange", one(mine, to.common))
	after, changes, e := to.Pulled(from)
	if e != api.OK || !slices.Equal(changes, []api.Change{{Replica: 0, Path: "gone", What: api.Conflict}}) {
		t.Fatalf("P5: Pulled = %v, %d", changes, e)
	}
	wantRecords(t, after, "gone", "strange")
	wantRecord(t, after, "gone", none(times.Time{3, 2}))
	wantRecord(t, after, "strange", one(mine, times.Time{3, 2}))
}

func TestPullPathLeavesTheCommonTime(t *testing.T) {
	to, from := New(0), New(1)
	wrote(t, to, "mine", "x")
	wrote(t, from, "a", "x")
	wrote(t, from, "b", "x")
	if what, e := to.PullPath(from, "a"); what != api.Copied || e != api.OK {
		t.Errorf("P4: PullPath = %d, %d", what, e)
	}
	wantRecord(t, to, "a", one(born("x", 1, 1, times.Time{0, 1}), times.Time{1, 2}))
	wantRecord(t, to, "b", none(times.Time{1}))
	wantRecords(t, to, "a", "mine")
	if what, e := to.PullPath(from, "never"); what != api.Nothing || e != api.OK {
		t.Errorf("P4: PullPath of no file = %d, %d", what, e)
	}
	wantRecord(t, to, "never", none(times.Time{1, 2}))
	wantRecords(t, to, "a", "mine", "never")
}

func TestPulledLeavesBothAsTheyAre(t *testing.T) {
	to, from := New(0), New(1)
	wrote(t, to, "a", "mine")
	wrote(t, from, "a", "yours")
	wrote(t, from, "b", "yours")
	from.keep("heard", none(times.Time{0, 0, 1}))
	toWas, fromWas := twin(to), twin(from)
	after := mustPull(t, to, from)
	wrote(t, after, "c", "later")
	wrote(t, after, "b", "later")
	if !reflect.DeepEqual(to, toWas) || !reflect.DeepEqual(from, fromWas) {
		t.Errorf("P7: behind Pulled: %+v, %+v", to, from)
	}
}

func TestPulledRefusesFilesTooMany(t *testing.T) {
	to, from := New(0), New(1)
	wrote(t, to, "z", "x")
	for i := range api.MaxFiles {
		wrote(t, from, string(rune('a'+i)), "x")
	}
	if after, changes, e := to.Pulled(from); after != nil || changes != nil || e != api.ErrFull {
		t.Errorf("P5: Pulled to 21 files = %v, %v, %d", after, changes, e)
	}
}

// someNet is three replicas in which things were done by chance.
func someNet(random *rand.Rand) []*Replica {
	net := []*Replica{New(0), New(1), New(2)}
	for range random.Intn(40) {
		to, from := random.Intn(3), random.Intn(3)
		path := string(rune('a' + random.Intn(3)))
		switch what := random.Intn(6); {
		case what == 0:
			net[to].Remove(path)
		case what <= 2 || to == from:
			net[to].Write(path, "x")
		case what == 3:
			net[to].PullPath(net[from], path)
		case what == 4:
			net[to].Resolve(net[from], path, random.Intn(2) == 0)
		default:
			net[to], _, _ = net[to].Pulled(net[from])
		}
	}
	return net
}

func conflictsOf(changes []api.Change) []api.Change {
	var conflicts []api.Change
	for _, c := range changes {
		if c.What == api.Conflict {
			conflicts = append(conflicts, c)
		}
	}
	return conflicts
}

func TestPulledTwiceChangesNothing(t *testing.T) {
	random := rand.New(rand.NewSource(2))
	copied, told := 0, 0
	for range 1000 {
		net := someNet(random)
		first, changes, _ := net[0].Pulled(net[1])
		second, again, e := first.Pulled(net[1])
		conflicts := conflictsOf(changes)
		if e != api.OK || !slices.Equal(again, conflicts) {
			t.Fatalf("P9: pulled %v, then %v, %d", changes, again, e)
		}
		wantSame(t, first, second)
		copied += len(changes) - len(conflicts)
		told += len(conflicts)
	}
	if copied < 100 || told < 100 {
		t.Errorf("P9: of 1000 pulls: %d changes, %d conflicts: too few to tell", copied, told)
	}
}

func TestPullPathTwiceChangesNothing(t *testing.T) {
	random := rand.New(rand.NewSource(3))
	for range 1000 {
		net := someNet(random)
		what, _ := net[0].PullPath(net[1], "a")
		was := twin(net[0])
		again, e := net[0].PullPath(net[1], "a")
		if e != api.OK || (what == api.Conflict) != (again == api.Conflict) || again == api.Copied || again == api.Removed {
			t.Fatalf("P9: pulled %d, then %d, %d", what, again, e)
		}
		wantSame(t, was, net[0])
	}
}

func wantSame(t *testing.T, one, other *Replica) {
	t.Helper()
	if one.common != other.common || !slices.Equal(pathsOf(one), pathsOf(other)) {
		t.Fatalf("P9: unlike: %+v, %+v", one, other)
	}
	for path := range one.records {
		wantRecord(t, other, path, one.recordOf(path))
	}
}

// What may stand in a net at all, behind whatever was done.
func TestEveryRecordCouldBe(t *testing.T) {
	random := rand.New(rand.NewSource(4))
	for range 1000 {
		net := someNet(random)
		var counts times.Time
		for i, r := range net {
			counts[i] = r.count()
		}
		for _, r := range net {
			for path := range r.records {
				rec := r.recordOf(path)
				if !rec.mustBeKept(r.common) || !rec.known.Within(counts) || rec.known[r.self] != r.count() {
					t.Fatalf("P9: in %d, of %d: %q: %+v", r.self, counts, path, rec)
				}
				if rec.isThere() && (!rec.hasChangesOf(rec.file) || !rec.changes.Has(rec.birth)) {
					t.Fatalf("P9: in %d: a file: %q: %+v", r.self, path, rec)
				}
			}
		}
	}
}

func TestResolveMakesAVersionBehindBoth(t *testing.T) {
	for _, c := range []struct {
		name     string
		to, from record
		theirs   bool
		want     record
	}{
		{"both there, to theirs", one(born("x", 0, 1, times.Time{3, 0, 1}), times.Time{3, 1, 1}),
			one(born("y", 2, 1, times.Time{1, 4, 1}), times.Time{2, 5, 2}), true,
			one(born("y", 0, 4, times.Time{4, 4, 1}), times.Time{4, 5, 2})},
		{"both there, to the own", one(born("x", 0, 1, times.Time{3, 0, 1}), times.Time{3, 1, 1}),
			one(born("y", 2, 1, times.Time{1, 4, 1}), times.Time{2, 5, 2}), false,
			one(born("x", 0, 4, times.Time{4, 4, 1}), times.Time{4, 5, 2})},
		{"there in from, to theirs", none(times.Time{3, 1, 1}),
			one(born("y", 2, 1, times.Time{1, 4, 1}), times.Time{2, 5, 2}), true,
			one(born("y", 0, 4, times.Time{4, 4, 1}), times.Time{4, 5, 2})},
		{"there in from, to the own", none(times.Time{3, 1, 1}),
			one(born("y", 2, 1, times.Time{1, 4, 1}), times.Time{2, 5, 2}), false,
			none(times.Time{4, 5, 2})},
		{"there in to, to theirs", one(born("x", 2, 1, times.Time{3, 0, 1}), times.Time{3, 1, 1}),
			none(times.Time{2, 5, 2}), true,
			none(times.Time{4, 5, 2})},
		{"there in to, to the own", one(born("x", 2, 1, times.Time{3, 0, 1}), times.Time{3, 1, 1}),
			none(times.Time{2, 5, 2}), false,
			one(born("x", 0, 4, times.Time{4, 0, 1}), times.Time{4, 5, 2})},
	} {
		to, from := New(0), New(1)
		to.common, from.common = times.Time{3}, times.Time{0, 5}
		to.keep("a", c.to)
		from.keep("a", c.from)
		fromWas := twin(from)
		if e := to.Resolve(from, "a", c.theirs); e != api.OK {
			t.Errorf("P6: %s: %d", c.name, e)
		}
		if got := to.recordOf("a"); got != c.want || to.common != (times.Time{4}) {
			t.Errorf("P6: %s: %+v, want %+v; common %v", c.name, got, c.want, to.common)
		}
		if !reflect.DeepEqual(from, fromWas) {
			t.Errorf("P6: %s: from has changed: %+v", c.name, from)
		}
	}
}

func TestResolveAtTheLastCount(t *testing.T) {
	to, from := New(0), New(1)
	wrote(t, to, "a", "x")
	wrote(t, from, "a", "y")
	wrote(t, from, "b", "y")
	to.common[0] = api.MaxCount
	was := twin(to)
	for _, theirs := range []bool{false, true} {
		if e := to.Resolve(from, "a", theirs); e != api.ErrFull {
			t.Errorf("P6: Resolve at the last count = %d", e)
		}
		if e := to.Resolve(from, "b", theirs); e != api.ErrNone {
			t.Errorf("P6: Resolve of no conflict at the last count = %d", e)
		}
	}
	if !reflect.DeepEqual(to, was) {
		t.Errorf("P1: behind refusals: %+v", to)
	}
	to.common[0] = api.MaxCount - 1
	if e := to.Resolve(from, "a", true); e != api.OK || to.count() != api.MaxCount {
		t.Errorf("P6: Resolve up to the last count = %d, %d", e, to.count())
	}
}

func TestPullsGoOnAtTheLastCount(t *testing.T) {
	to, from := New(0), New(1)
	to.common[0] = api.MaxCount
	wrote(t, from, "a", "y")
	if what, e := to.PullPath(from, "a"); what != api.Copied || e != api.OK {
		t.Errorf("P4: PullPath at the last count = %d, %d", what, e)
	}
	wrote(t, from, "b", "y")
	wantRecords(t, mustPull(t, to, from), "a", "b")
}
