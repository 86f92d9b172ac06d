package reunion_test

import (
	"math"
	"slices"
	"strconv"
	"strings"
	"testing"

	"reunion/api"
	"reunion/reunion"
)

func mustRemove(t *testing.T, net *reunion.Net, r int, path string) {
	t.Helper()
	if e := net.Remove(r, path); e != api.OK {
		t.Fatalf("P3: Remove(%d, %q) = %d", r, path, e)
	}
}

func mustResolve(t *testing.T, net *reunion.Net, to int, from int, path string, theirs bool) {
	t.Helper()
	if e := net.Resolve(to, from, path, theirs); e != api.OK {
		t.Fatalf("P6: Resolve(%d, %d, %q, %t) = %d", to, from, path, theirs, e)
	}
}

// told writes changes as words: a+ is copied, a- removed, a! a conflict.
func told(changes []api.Change) string {
	var words []string
	for _, c := range changes {
		words = append(words, c.Path+string("?+-!"[c.What]))
	}
	return strings.Join(words, " ")
}

func wantPull(t *testing.T, net *reunion.Net, to int, from int, want string) {
	t.Helper()
	l, e := net.Pull(to, from)
	if told(l) != want || e != api.OK {
		t.Errorf("P5: Pull(%d, %d) = %q, %d, want %q", to, from, told(l), e, want)
	}
	for _, c := range l {
		if c.Replica != to {
			t.Errorf("P5: Pull(%d, %d): a change in %d", to, from, c.Replica)
		}
	}
}

func wantPullPath(t *testing.T, net *reunion.Net, to int, from int, path string, want int) {
	t.Helper()
	if what, e := net.PullPath(to, from, path); what != want || e != api.OK {
		t.Errorf("P4: PullPath(%d, %d, %q) = %d, %d, want %d", to, from, path, what, e, want)
	}
}

// standing is all that can be seen of a net.
func standing(net *reunion.Net, n int) string {
	var all strings.Builder
	for r := range n {
		s, _ := net.Look(r)
		for _, number := range []int{s.Count, s.Files, s.Records} {
			all.WriteString(strconv.Itoa(number) + ";")
		}
		l, _ := net.List(r)
		for _, path := range l {
			text, _ := net.Read(r, path)
			all.WriteString(path + "=" + text + ";")
		}
		all.WriteString("\n")
	}
	return all.String()
}

func fill(t *testing.T, net *reunion.Net, r int, n int, ahead string) {
	t.Helper()
	for i := range n {
		mustWrite(t, net, r, ahead+string(rune('a'+i)), "")
	}
}

func TestExample1(t *testing.T) {
	net := begun(t, 2)
	mustWrite(t, net, 0, "a", "first")
	wantPull(t, net, 1, 0, "a+")
	wantRead(t, net, 1, "a", "first")
	mustWrite(t, net, 1, "a", "of one")
	mustWrite(t, net, 0, "a", "of nought")
	wantPull(t, net, 0, 1, "a!")
	wantRead(t, net, 0, "a", "of nought")
	mustResolve(t, net, 0, 1, "a", true)
	wantRead(t, net, 0, "a", "of one")
	wantPull(t, net, 1, 0, "a+")
	wantRead(t, net, 1, "a", "of one")
	wantPull(t, net, 0, 1, "")
}

func TestExample2(t *testing.T) {
	net := begun(t, 2)
	mustWrite(t, net, 0, "a", "x")
	wantPull(t, net, 1, 0, "a+")
	mustRemove(t, net, 1, "a")
	wantPull(t, net, 0, 1, "a-")
	wantList(t, net, 0)
	mustWrite(t, net, 0, "a", "anew")
	wantPull(t, net, 1, 0, "a+")
	wantRead(t, net, 1, "a", "anew")
}

func TestExample3(t *testing.T) {
	net := begun(t, 2)
	mustWrite(t, net, 0, "a", "x")
	wantPull(t, net, 1, 0, "a+")
	mustRemove(t, net, 0, "a")
	mustWrite(t, net, 1, "a", "y")
	wantPull(t, net, 0, 1, "a!")
	wantList(t, net, 0)
	wantPull(t, net, 1, 0, "a!")
	wantRead(t, net, 1, "a", "y")
}

func TestPullTellsPathsRising(t *testing.T) {
	net := begun(t, 2)
	for _, path := range []string{"z", "a/b", "b", "aa", "/", "a"} {
		mustWrite(t, net, 0, path, "x")
	}
	wantPull(t, net, 1, 0, "/+ a+ a/b+ aa+ b+ z+")
	mustRemove(t, net, 0, "aa")
	mustRemove(t, net, 0, "/")
	mustWrite(t, net, 0, "m", "x")
	mustWrite(t, net, 0, "b", "x")
	mustWrite(t, net, 1, "b", "x")
	mustWrite(t, net, 1, "c", "x")
	wantPull(t, net, 1, 0, "/- aa- b! m+")
	wantPull(t, net, 0, 1, "b! c+")
}

func TestPullPathPullsThePathAlone(t *testing.T) {
	net := begun(t, 2)
	mustWrite(t, net, 0, "a", "x")
	mustWrite(t, net, 0, "b", "x")
	wantPullPath(t, net, 1, 0, "a", api.Copied)
	wantPullPath(t, net, 1, 0, "a", api.Nothing)
	wantList(t, net, 1, "a")
	mustRemove(t, net, 0, "a")
	wantPullPath(t, net, 1, 0, "b", api.Copied)
	wantList(t, net, 1, "a", "b")
	wantPullPath(t, net, 1, 0, "a", api.Removed)
	wantPullPath(t, net, 1, 0, "a", api.Nothing)
	mustWrite(t, net, 0, "b", "y")
	mustWrite(t, net, 1, "b", "z")
	wantPullPath(t, net, 1, 0, "b", api.Conflict)
	wantPullPath(t, net, 1, 0, "b", api.Conflict)
	wantRead(t, net, 1, "b", "z")
	wantPullPath(t, net, 0, 1, "b", api.Conflict)
	wantRead(t, net, 0, "b", "y")
}

func TestAStrangersMissingFileIsNoRemoval(t *testing.T) {
	net := begun(t, 3)
	mustWrite(t, net, 0, "a", "x")
	mustWrite(t, net, 1, "b", "y")
	wantPull(t, net, 0, 1, "b+")
	wantRead(t, net, 0, "a", "x")
	wantPullPath(t, net, 0, 2, "a", api.Nothing)
	wantPull(t, net, 2, 0, "a+ b+")
	mustRemove(t, net, 2, "a")
	wantPull(t, net, 1, 2, "")
	wantPull(t, net, 0, 1, "a-")
}

func TestLookTellsWhatIsKept(t *testing.T) {
	net := begun(t, 2)
	mustWrite(t, net, 0, "a", "x")
	wantPullPath(t, net, 1, 0, "never", api.Nothing)
	wantLook(t, net, 1, api.State{Records: 1})
	wantPullPath(t, net, 1, 0, "a", api.Copied)
	wantLook(t, net, 1, api.State{Files: 1, Records: 2})
	wantPull(t, net, 1, 0, "")
	wantLook(t, net, 1, api.State{Files: 1, Records: 1})
	mustRemove(t, net, 0, "a")
	wantLook(t, net, 0, api.State{Count: 2})
	wantPullPath(t, net, 1, 0, "a", api.Removed)
	wantLook(t, net, 1, api.State{Records: 1})
	wantPull(t, net, 1, 0, "")
	wantLook(t, net, 1, api.State{})
}

func TestLookTellsWhatIsKeptOfAConflict(t *testing.T) {
	net := begun(t, 2)
	mustWrite(t, net, 0, "a", "x")
	wantPull(t, net, 1, 0, "a+")
	mustWrite(t, net, 0, "a", "y")
	mustRemove(t, net, 1, "a")
	wantLook(t, net, 1, api.State{Count: 1})
	wantPull(t, net, 1, 0, "a!")
	wantLook(t, net, 1, api.State{Count: 1, Records: 1})
	mustResolve(t, net, 1, 0, "a", false)
	wantLook(t, net, 1, api.State{Count: 2})
	wantPull(t, net, 0, 1, "a-")
	wantLook(t, net, 0, api.State{Count: 2})
}

func TestResolve(t *testing.T) {
	for _, c := range []struct {
		removed0, removed1, theirs bool
		text                       string // "": the file is gone
		then                       string // what 1 pulls from 0 behind it
	}{
		{false, false, true, "of one", "a+"},
		{false, false, false, "of nought", "a+"},
		{true, false, true, "of one", "a+"},
		{true, false, false, "", "a-"},
		{false, true, true, "", ""},
		{false, true, false, "of nought", "a+"},
	} {
		net := begun(t, 2)
		mustWrite(t, net, 0, "a", "first")
		wantPull(t, net, 1, 0, "a+")
		writeOrRemove(t, net, 0, "of nought", c.removed0)
		writeOrRemove(t, net, 1, "of one", c.removed1)
		wantPullPath(t, net, 0, 1, "a", api.Conflict)
		mustResolve(t, net, 0, 1, "a", c.theirs)
		if e := net.Resolve(0, 1, "a", c.theirs); e != api.ErrNone {
			t.Errorf("P6: %+v: Resolve once more = %d", c, e)
		}
		wantPull(t, net, 0, 1, "")
		wantPull(t, net, 1, 0, c.then)
		wantPull(t, net, 0, 1, "")
		for r := range 2 {
			if c.text == "" {
				wantList(t, net, r)
			} else {
				wantRead(t, net, r, "a", c.text)
			}
		}
		files, _ := net.List(0)
		wantLook(t, net, 0, api.State{Count: 3, Files: len(files), Records: len(files)})
	}
}

func writeOrRemove(t *testing.T, net *reunion.Net, r int, text string, remove bool) {
	t.Helper()
	if remove {
		mustRemove(t, net, r, "a")
	} else {
		mustWrite(t, net, r, "a", text)
	}
}

func TestResolveOfNoConflict(t *testing.T) {
	net := begun(t, 3)
	mustWrite(t, net, 0, "a", "x")
	mustWrite(t, net, 2, "c", "x")
	wantPull(t, net, 1, 0, "a+")
	mustWrite(t, net, 0, "b", "x")
	was := standing(net, 3)
	for _, theirs := range []bool{true, false} {
		for _, c := range []struct {
			to, from int
			path     string
		}{{0, 1, "a"}, {1, 0, "a"}, {0, 1, "b"}, {1, 0, "b"}, {0, 1, "never"}, {0, 2, "c"}} {
			if e := net.Resolve(c.to, c.from, c.path, theirs); e != api.ErrNone {
				t.Errorf("P6: Resolve(%d, %d, %q, %t) = %d", c.to, c.from, c.path, theirs, e)
			}
		}
	}
	if now := standing(net, 3); now != was {
		t.Errorf("P1: behind refusals: %s, was %s", now, was)
	}
}

// refusesPair asks every call that pulls, with a path that may be or not.
func refusesPair(t *testing.T, net *reunion.Net, to int, from int) {
	t.Helper()
	for _, path := range []string{"a", "", "A"} {
		if what, e := net.PullPath(to, from, path); what != 0 || e != api.ErrNumber {
			t.Errorf("P4: PullPath(%d, %d, %q) = %d, %d", to, from, path, what, e)
		}
		for _, theirs := range []bool{true, false} {
			if e := net.Resolve(to, from, path, theirs); e != api.ErrNumber {
				t.Errorf("P6: Resolve(%d, %d, %q, %t) = %d", to, from, path, theirs, e)
			}
		}
	}
	if l, e := net.Pull(to, from); l != nil || e != api.ErrNumber {
		t.Errorf("P5: Pull(%d, %d) = %v, %d", to, from, l, e)
	}
	if l, e := net.Round([]api.Pair{{To: to, From: from}}); l != nil || e != api.ErrNumber {
		t.Errorf("P7: Round(%d, %d) = %v, %d", to, from, l, e)
	}
}

func TestPairsAreRefusedFirst(t *testing.T) {
	net := begun(t, 3)
	fill(t, net, 0, 20, "f")
	fill(t, net, 1, 20, "g")
	was := standing(net, 3)
	for _, r := range []int{-1, 3, 6, 1000, math.MaxInt, math.MinInt} {
		refusesPair(t, net, r, 0)
		refusesPair(t, net, 0, r)
		refusesPair(t, net, r, r)
	}
	for r := range 3 {
		refusesPair(t, net, r, r)
	}
	if now := standing(net, 3); now != was {
		t.Errorf("P1: behind refusals: %s, was %s", now, was)
	}
	refusesPair(t, nil, 0, 1)
	refusesPair(t, &reunion.Net{}, 0, 1)
}

func TestPullsRefuseWrongPaths(t *testing.T) {
	net := begun(t, 2)
	mustWrite(t, net, 0, "a", "x")
	for _, path := range []string{"", "A", "a b", "é", "a\x00", strings.Repeat("a", 13), strings.Repeat("/", 1<<20)} {
		if what, e := net.PullPath(1, 0, path); what != 0 || e != api.ErrPath {
			t.Errorf("P4: PullPath(1, 0, %.20q) = %d, %d", path, what, e)
		}
		if e := net.Resolve(1, 0, path, true); e != api.ErrPath {
			t.Errorf("P6: Resolve(1, 0, %.20q) = %d", path, e)
		}
	}
	wantLook(t, net, 1, api.State{})
}

func TestPullPathOfAFileTooMany(t *testing.T) {
	net := begun(t, 2)
	fill(t, net, 0, 19, "f")
	mustWrite(t, net, 1, "a", "x")
	mustWrite(t, net, 1, "b", "x")
	wantPullPath(t, net, 0, 1, "a", api.Copied)
	was := standing(net, 2)
	if what, e := net.PullPath(0, 1, "b"); what != 0 || e != api.ErrFull {
		t.Errorf("P4: PullPath of a file above twenty = %d, %d", what, e)
	}
	if e := net.Resolve(0, 1, "b", true); e != api.ErrNone {
		t.Errorf("P6: Resolve where PullPath is refused = %d", e)
	}
	if now := standing(net, 2); now != was {
		t.Errorf("P1: behind refusals: %s, was %s", now, was)
	}
	mustWrite(t, net, 1, "a", "y")
	wantPullPath(t, net, 0, 1, "a", api.Copied)
	wantRead(t, net, 0, "a", "y")
	mustRemove(t, net, 1, "a")
	wantPullPath(t, net, 0, 1, "a", api.Removed)
	wantPullPath(t, net, 0, 1, "b", api.Copied)
	wantLook(t, net, 0, api.State{Count: 19, Files: 20, Records: 21})
}

func TestPullOfFilesTooMany(t *testing.T) {
	net := begun(t, 2)
	fill(t, net, 0, 18, "f")
	fill(t, net, 1, 3, "g")
	was := standing(net, 2)
	for _, pair := range []api.Pair{{To: 0, From: 1}, {To: 1, From: 0}} {
		if l, e := net.Pull(pair.To, pair.From); l != nil || e != api.ErrFull {
			t.Errorf("P5: Pull(%d, %d) to 21 files = %v, %d", pair.To, pair.From, l, e)
		}
	}
	if now := standing(net, 2); now != was {
		t.Errorf("P1: behind refusals: %s, was %s", now, was)
	}
	mustRemove(t, net, 1, "gb")
	wantPull(t, net, 0, 1, "ga+ gc+")
	wantLook(t, net, 0, api.State{Count: 18, Files: 20, Records: 20})
}

func TestPullIsMeasuredBehindAllOfIt(t *testing.T) {
	net := begun(t, 2)
	fill(t, net, 0, 20, "f")
	if _, e := net.Pull(1, 0); e != api.OK {
		t.Fatalf("P5: Pull of 20 files = %d", e)
	}
	mustRemove(t, net, 1, "ft")
	mustWrite(t, net, 1, "a", "ahead of what goes")
	wantPull(t, net, 0, 1, "a+ ft-")
	wantLook(t, net, 0, api.State{Count: 20, Files: 20, Records: 20})
}

func TestResolveToAFileTooMany(t *testing.T) {
	net := begun(t, 2)
	mustWrite(t, net, 0, "a", "x")
	wantPull(t, net, 1, 0, "a+")
	mustRemove(t, net, 0, "a")
	mustWrite(t, net, 1, "a", "y")
	fill(t, net, 0, 20, "f")
	was := standing(net, 2)
	if e := net.Resolve(0, 1, "a", true); e != api.ErrFull {
		t.Errorf("P6: Resolve to 21 files = %d", e)
	}
	wantPullPath(t, net, 0, 1, "a", api.Conflict)
	if now := standing(net, 2); now != was {
		t.Errorf("P1: behind a refusal: %s, was %s", now, was)
	}
	mustResolve(t, net, 0, 1, "a", false)
	wantLook(t, net, 0, api.State{Count: 23, Files: 20, Records: 21})
}

func TestResolveAmongTwentyFiles(t *testing.T) {
	net := begun(t, 2)
	fill(t, net, 0, 20, "f")
	mustWrite(t, net, 1, "fa", "y")
	mustResolve(t, net, 0, 1, "fa", true)
	wantRead(t, net, 0, "fa", "y")
	wantLook(t, net, 0, api.State{Count: 21, Files: 20, Records: 20})
}

func wantRound(t *testing.T, net *reunion.Net, pairs []api.Pair, want []api.Change, wantE api.Errno) {
	t.Helper()
	was := slices.Clone(pairs)
	if l, e := net.Round(pairs); !slices.Equal(l, want) || e != wantE {
		t.Errorf("P7: Round(%v) = %v, %d, want %v, %d", pairs, l, e, want, wantE)
	}
	if !slices.Equal(pairs, was) {
		t.Errorf("P2: Round has changed %v to %v", was, pairs)
	}
}

func TestRoundOfThreePairs(t *testing.T) {
	net := begun(t, 6)
	mustWrite(t, net, 0, "b", "x")
	mustWrite(t, net, 0, "a", "x")
	mustWrite(t, net, 2, "a", "y")
	mustWrite(t, net, 4, "c", "z")
	mustWrite(t, net, 5, "c", "zz")
	pairs := []api.Pair{{To: 4, From: 5}, {To: 3, From: 2}, {To: 1, From: 0}}
	wantRound(t, net, pairs, []api.Change{
		{Replica: 4, Path: "c", What: api.Conflict},
		{Replica: 3, Path: "a", What: api.Copied},
		{Replica: 1, Path: "a", What: api.Copied},
		{Replica: 1, Path: "b", What: api.Copied},
	}, api.OK)
	wantList(t, net, 1, "a", "b")
	wantRead(t, net, 3, "a", "y")
	wantRead(t, net, 4, "c", "z")
	wantList(t, net, 2, "a")
	mustRemove(t, net, 3, "a")
	wantRound(t, net, []api.Pair{{To: 2, From: 3}}, []api.Change{{Replica: 2, Path: "a", What: api.Removed}}, api.OK)
}

func TestRoundOfNone(t *testing.T) {
	net := begun(t, 1)
	mustWrite(t, net, 0, "a", "x")
	wantRound(t, net, nil, nil, api.OK)
	wantRound(t, net, []api.Pair{}, nil, api.OK)
	wantLook(t, net, 0, api.State{Count: 1, Files: 1, Records: 1})
}

func TestRoundRefuses(t *testing.T) {
	net := begun(t, 6)
	fill(t, net, 0, 20, "f")
	fill(t, net, 1, 1, "g")
	fill(t, net, 2, 1, "h")
	was := standing(net, 6)
	full := api.Pair{To: 1, From: 0}
	fine := api.Pair{To: 3, From: 2}
	for _, c := range []struct {
		pairs []api.Pair
		want  api.Errno
	}{
		{[]api.Pair{fine, {To: 4, From: 6}}, api.ErrNumber},
		{[]api.Pair{fine, fine, {To: 4, From: 4}}, api.ErrNumber},
		{[]api.Pair{full, fine, full, {To: -1, From: 4}}, api.ErrNumber},
		{[]api.Pair{fine, fine}, api.ErrBusy},
		{[]api.Pair{fine, {To: 2, From: 3}}, api.ErrBusy},
		{[]api.Pair{fine, {To: 3, From: 4}}, api.ErrBusy},
		{[]api.Pair{fine, {To: 4, From: 3}}, api.ErrBusy},
		{[]api.Pair{fine, {To: 2, From: 4}}, api.ErrBusy},
		{[]api.Pair{fine, {To: 4, From: 2}}, api.ErrBusy},
		{[]api.Pair{full, {To: 4, From: 5}, {To: 2, From: 1}}, api.ErrBusy},
		{[]api.Pair{full}, api.ErrFull},
		{[]api.Pair{full, fine}, api.ErrFull},
		{[]api.Pair{fine, full}, api.ErrFull},
		{[]api.Pair{fine, {To: 4, From: 5}, full}, api.ErrFull},
		{slices.Repeat([]api.Pair{fine}, 1<<20), api.ErrBusy},
		{append(slices.Repeat([]api.Pair{fine}, 1<<20), api.Pair{}), api.ErrNumber},
	} {
		if l, e := net.Round(c.pairs); l != nil || e != c.want {
			t.Errorf("P7: Round of %d pairs = %v, %d, want %d", len(c.pairs), l, e, c.want)
		}
	}
	if now := standing(net, 6); now != was {
		t.Errorf("P1: behind refusals: %s, was %s", now, was)
	}
	wantRound(t, net, []api.Pair{fine}, []api.Change{{Replica: 3, Path: "ha", What: api.Copied}}, api.OK)
}

func TestRoundKeepsNoList(t *testing.T) {
	net := begun(t, 4)
	mustWrite(t, net, 0, "a", "x")
	pairs := []api.Pair{{To: 1, From: 0}, {To: 2, From: 3}}
	wantRound(t, net, pairs, []api.Change{{Replica: 1, Path: "a", What: api.Copied}}, api.OK)
	pairs[0], pairs[1] = api.Pair{To: 9, From: 9}, api.Pair{To: 9, From: 9}
	wantPull(t, net, 2, 1, "a+")
	wantPull(t, net, 1, 0, "")
}

func spoilChanges(list []api.Change) {
	list = list[:cap(list)]
	for i := range list {
		list[i] = api.Change{Replica: 9, Path: "spoiled", What: 9}
	}
}

func TestChangesAreTheCallers(t *testing.T) {
	net := begun(t, 2)
	for _, path := range []string{"a", "b", "c"} {
		mustWrite(t, net, 0, path, "x")
		mustWrite(t, net, 1, path, "y")
	}
	pull := func() []api.Change {
		l, _ := net.Pull(0, 1)
		return l
	}
	round := func() []api.Change {
		l, _ := net.Round([]api.Pair{{To: 0, From: 1}})
		return l
	}
	for _, call := range []func() []api.Change{pull, round} {
		before, spoiled := call(), call()
		spoilChanges(spoiled)
		if after := call(); told(before) != "a! b! c!" || told(after) != "a! b! c!" {
			t.Errorf("P2: lists beside a spoiled one: %v, %v", before, after)
		}
		if slices.ContainsFunc(spoiled, func(c api.Change) bool { return c.Path != "spoiled" }) {
			t.Errorf("P2: a caller's list was changed: %v", spoiled)
		}
	}
	wantList(t, net, 0, "a", "b", "c")
}
