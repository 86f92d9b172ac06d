package replica

import (
	"testing"

	"reunion/api"
	"reunion/times"
)

func wrote(t *testing.T, r *Replica, path string, text string) record {
	t.Helper()
	if e := r.Write(path, text); e != api.OK {
		t.Fatalf("P3: Write(%q, %q) = %d", path, text, e)
	}
	return r.recordOf(path)
}

func TestWriteBearsAFile(t *testing.T) {
	r := New(2)
	wrote(t, r, "a", "x")
	rec := wrote(t, r, "b", "y")
	now := times.Event{Replica: 2, Number: 2}
	if !rec.isThere() || rec.text != "y" || rec.birth != now || rec.changes != now.Alone() {
		t.Errorf("P3: a file that is written the first time: %+v", rec)
	}
}

func TestWriteOverChangesAFile(t *testing.T) {
	r := New(1)
	wrote(t, r, "a", "x")
	wrote(t, r, "b", "x")
	rec := wrote(t, r, "a", "y")
	want := file{text: "y", birth: times.Event{Replica: 1, Number: 1}, changes: times.Time{0, 3}}
	if rec.file != want {
		t.Errorf("P3: a file that is written over: %+v, want %+v", rec.file, want)
	}
}

func TestWriteOverKeepsTheOthersChanges(t *testing.T) {
	r := New(0)
	r.common = times.Time{4, 6}
	old := file{text: "x", birth: times.Event{Replica: 1, Number: 2}, changes: times.Time{0, 5}}
	r.keep("a", record{old, knowledge{r.common}})
	rec := wrote(t, r, "a", "y")
	want := file{text: "y", birth: old.birth, changes: times.Time{5, 5}}
	if rec.file != want {
		t.Errorf("P3: a file of another replica, written over: %+v, want %+v", rec.file, want)
	}
}

func TestWriteBehindRemoveBearsAnew(t *testing.T) {
	r := New(0)
	wrote(t, r, "a", "x")
	r.Remove("a")
	rec := wrote(t, r, "a", "")
	want := file{birth: times.Event{Replica: 0, Number: 3}, changes: times.Time{3}}
	if rec.file != want {
		t.Errorf("P3: a file that is born anew: %+v, want %+v", rec.file, want)
	}
}

func TestBornAnewWithoutTheOldChanges(t *testing.T) {
	r := New(0)
	old := file{text: "x", birth: times.Event{Replica: 1, Number: 2}, changes: times.Time{0, 5}}
	r.keep("a", record{old, knowledge{times.Time{0, 6}}})
	r.Remove("a")
	if rec := r.recordOf("a"); rec.file != (file{}) || rec.known != (times.Time{1, 6}) {
		t.Errorf("P3: a record behind Remove: %+v", rec)
	}
	rec := wrote(t, r, "a", "y")
	want := file{text: "y", birth: times.Event{Replica: 0, Number: 2}, changes: times.Time{2}}
	if rec.file != want || rec.known != (times.Time{2, 6}) {
		t.Errorf("P3: born anew where a record was kept: %+v, want %+v", rec, want)
	}
}

func TestOwnNumberIsTheCountForEveryPath(t *testing.T) {
	r := New(1)
	r.common = times.Time{7, 0}
	r.keep("gone", record{knowledge: knowledge{times.Time{8, 0}}})
	wrote(t, r, "a", "x")
	wrote(t, r, "b", "x")
	r.Remove("b")
	for path, want := range map[string]times.Time{"a": {7, 3}, "b": {7, 3}, "never": {7, 3}, "gone": {8, 3}} {
		if got := r.recordOf(path).known; got != want {
			t.Errorf("P3: known of %q: %v, want %v", path, got, want)
		}
	}
}

func TestRecordsAreJustThoseThatMustBeKept(t *testing.T) {
	r := New(0)
	r.keep("heard", record{knowledge: knowledge{times.Time{0, 3}}})
	r.keep("unheard", record{knowledge: knowledge{r.common}})
	if s := r.Look(); s != (api.State{Records: 1}) {
		t.Errorf("P3: Look = %+v, want 1 record of no file", s)
	}
	wrote(t, r, "heard", "x")
	wrote(t, r, "a", "x")
	if s := r.Look(); s != (api.State{Count: 2, Files: 2, Records: 2}) {
		t.Errorf("P3: Look behind two writes = %+v", s)
	}
	r.Remove("a")
	r.Remove("heard")
	if s := r.Look(); s != (api.State{Count: 4, Records: 1}) {
		t.Errorf("P3: Look behind two removals = %+v, want the record that is known otherwise", s)
	}
	if l := r.List(); len(l) != 0 {
		t.Errorf("P3: List = %q, where a record has no file", l)
	}
	if s, e := r.Read("heard"); s != "" || e != api.ErrNone {
		t.Errorf("P3: Read = %q, %d, where a record has no file", s, e)
	}
	if e := r.Remove("heard"); e != api.ErrNone {
		t.Errorf("P3: Remove = %d, where a record has no file", e)
	}
}

func TestRecordsOfNoFileDoNotFillAReplica(t *testing.T) {
	r := New(0)
	for i := range 26 {
		r.keep("gone/"+string(rune('a'+i)), record{knowledge: knowledge{times.Time{0, 1}}})
	}
	for i := range api.MaxFiles {
		wrote(t, r, "f/"+string(rune('a'+i)), "")
	}
	if e := r.Write("x", ""); e != api.ErrFull {
		t.Errorf("P3: Write of a file too many = %d", e)
	}
}

func TestCountIsBounded(t *testing.T) {
	r := New(3)
	wrote(t, r, "a", "x")
	wrote(t, r, "b", "x")
	r.common[3] = api.MaxCount - 2
	wrote(t, r, "a", "y")
	if e := r.Remove("b"); e != api.OK {
		t.Errorf("P3: Remove up to the last count = %d", e)
	}
	for _, path := range []string{"a", "b"} {
		if e := r.Write(path, "z"); e != api.ErrFull {
			t.Errorf("P3: Write(%q) at the last count = %d", path, e)
		}
	}
	if e := r.Remove("a"); e != api.ErrFull {
		t.Errorf("P3: Remove at the last count = %d", e)
	}
	if e := r.Remove("b"); e != api.ErrNone {
		t.Errorf("P1: Remove of no file at the last count = %d", e)
	}
	if s, e := r.Read("a"); s != "y" || e != api.OK {
		t.Errorf("P3: Read at the last count = %q, %d", s, e)
	}
	if s := r.Look(); s != (api.State{Count: api.MaxCount, Files: 1, Records: 1}) {
		t.Errorf("P1: Look behind refusals = %+v", s)
	}
}
