package reunion_test

import (
	"math"
	"math/rand"
	"slices"
	"strings"
	"testing"

	"reunion/api"
	"reunion/reunion"
)

var longText = strings.Repeat("x", api.MaxText+1)

func begun(t *testing.T, n int) *reunion.Net {
	t.Helper()
	net, e := reunion.New(n)
	if net == nil || e != api.OK {
		t.Fatalf("P3: New(%d) = %v, %d", n, net, e)
	}
	return net
}

func mustWrite(t *testing.T, net *reunion.Net, r int, path string, text string) {
	t.Helper()
	if e := net.Write(r, path, text); e != api.OK {
		t.Fatalf("P3: Write(%d, %q, %q) = %d", r, path, text, e)
	}
}

func wantList(t *testing.T, net *reunion.Net, r int, want ...string) {
	t.Helper()
	if l, e := net.List(r); !slices.Equal(l, want) || e != api.OK {
		t.Errorf("P3: List(%d) = %q, %d, want %q", r, l, e, want)
	}
}

func wantLook(t *testing.T, net *reunion.Net, r int, want api.State) {
	t.Helper()
	if s, e := net.Look(r); s != want || e != api.OK {
		t.Errorf("P3: Look(%d) = %+v, %d, want %+v", r, s, e, want)
	}
}

func wantRead(t *testing.T, net *reunion.Net, r int, path string, want string) {
	t.Helper()
	if s, e := net.Read(r, path); s != want || e != api.OK {
		t.Errorf("P3: Read(%d, %q) = %q, %d, want %q", r, path, s, e, want)
	}
}

func TestNew(t *testing.T) {
	for _, n := range []int{0, 7, -1, 1000, math.MaxInt, math.MinInt} {
		if net, e := reunion.New(n); net != nil || e != api.ErrNumber {
			t.Errorf("P3: New(%d) = %v, %d", n, net, e)
		}
	}
	for n := 1; n <= 6; n++ {
		net := begun(t, n)
		for r := range n {
			wantList(t, net, r)
			wantLook(t, net, r, api.State{})
		}
		if _, e := net.Look(n); e != api.ErrNumber {
			t.Errorf("P3: Look(%d) of %d replicas = %d", n, n, e)
		}
	}
}

func TestEveryReplicaStandsByItself(t *testing.T) {
	for _, n := range []int{1, 6} {
		net := begun(t, n)
		for r := range n {
			for range r + 1 {
				mustWrite(t, net, r, "a", "of "+string(rune('0'+r)))
			}
		}
		for r := range n {
			wantRead(t, net, r, "a", "of "+string(rune('0'+r)))
			wantLook(t, net, r, api.State{Count: r + 1, Files: 1, Records: 1})
		}
	}
}

// refuses asks every call that names a path, Write with a text that is too
// long, and wants the same error of each.
func refuses(t *testing.T, net *reunion.Net, r int, path string, want api.Errno) {
	t.Helper()
	if e := net.Write(r, path, longText); e != want {
		t.Errorf("P1: Write(%d, %q, too long) = %d, want %d", r, path, e, want)
	}
	if e := net.Remove(r, path); e != want {
		t.Errorf("P1: Remove(%d, %q) = %d, want %d", r, path, e, want)
	}
	if s, e := net.Read(r, path); s != "" || e != want {
		t.Errorf("P1: Read(%d, %q) = %q, %d, want %d", r, path, s, e, want)
	}
}

func TestNumbersAreRefusedFirst(t *testing.T) {
	net := begun(t, 6)
	mustWrite(t, net, 0, "a", "x")
	for _, r := range []int{6, -1, 7, math.MaxInt, math.MinInt} {
		for _, path := range []string{"a", "", "A"} {
			refuses(t, net, r, path, api.ErrNumber)
		}
		if l, e := net.List(r); len(l) != 0 || e != api.ErrNumber {
			t.Errorf("P3: List(%d) = %q, %d", r, l, e)
		}
		if s, e := net.Look(r); s != (api.State{}) || e != api.ErrNumber {
			t.Errorf("P3: Look(%d) = %+v, %d", r, s, e)
		}
	}
	wantLook(t, net, 0, api.State{Count: 1, Files: 1, Records: 1})
}

func TestPathsAreRefusedAheadOfTexts(t *testing.T) {
	net := begun(t, 1)
	for _, path := range []string{
		"", "A", "Z", "`", "{", ".", "0", "a b", "a\n", "\x00", "a\xff", "é", "a\\b",
		strings.Repeat("a", 13), strings.Repeat("/", 13), strings.Repeat("a", 1<<20),
	} {
		refuses(t, net, 0, path, api.ErrPath)
	}
	wantLook(t, net, 0, api.State{})
}

func TestPathsOfEveryAllowedByte(t *testing.T) {
	for b := range 256 {
		net := begun(t, 1)
		path := "a" + string([]byte{byte(b)})
		want := api.ErrPath
		if strings.IndexByte("abcdefghijklmnopqrstuvwxyz/", byte(b)) >= 0 {
			want = api.OK
		}
		if e := net.Write(0, path, ""); e != want {
			t.Errorf("P3: Write(0, %q, ..) = %d, want %d", path, e, want)
		}
	}
}

func TestPathsAndTextsAtTheirEdges(t *testing.T) {
	net := begun(t, 1)
	paths := []string{"/", "//", "a", "abcdefghijkl", "z", "zzzzzzzzzzz/"}
	texts := []string{"", "\x00", "\xff\xfe\n", strings.Repeat("é", 30), strings.Repeat("x", 60)}
	for _, path := range paths {
		for _, text := range texts {
			mustWrite(t, net, 0, path, text)
			wantRead(t, net, 0, path, text)
		}
	}
	wantList(t, net, 0, paths...)
	wantLook(t, net, 0, api.State{Count: 30, Files: 6, Records: 6})
}

func TestLongTextsAreRefused(t *testing.T) {
	net := begun(t, 1)
	mustWrite(t, net, 0, "a", "old")
	for _, text := range []string{longText, strings.Repeat("é", 31), strings.Repeat("x", 1<<20)} {
		for _, path := range []string{"a", "b"} {
			if e := net.Write(0, path, text); e != api.ErrLong {
				t.Errorf("P3: Write(0, %q, %d bytes) = %d", path, len(text), e)
			}
		}
	}
	wantRead(t, net, 0, "a", "old")
	wantLook(t, net, 0, api.State{Count: 1, Files: 1, Records: 1})
}

func TestRemove(t *testing.T) {
	net := begun(t, 2)
	mustWrite(t, net, 0, "a", "x")
	mustWrite(t, net, 0, "a/b", "y")
	if e := net.Remove(0, "a"); e != api.OK {
		t.Errorf("P3: Remove(0, a) = %d", e)
	}
	wantList(t, net, 0, "a/b")
	wantLook(t, net, 0, api.State{Count: 3, Files: 1, Records: 1})
	for _, c := range []struct {
		r    int
		path string
	}{{0, "a"}, {0, "never"}, {1, "a/b"}} {
		if e := net.Remove(c.r, c.path); e != api.ErrNone {
			t.Errorf("P3: Remove(%d, %q) = %d", c.r, c.path, e)
		}
		if s, e := net.Read(c.r, c.path); s != "" || e != api.ErrNone {
			t.Errorf("P3: Read(%d, %q) = %q, %d", c.r, c.path, s, e)
		}
	}
	wantLook(t, net, 0, api.State{Count: 3, Files: 1, Records: 1})
	wantLook(t, net, 1, api.State{})
	mustWrite(t, net, 0, "a", "anew")
	wantRead(t, net, 0, "a", "anew")
	wantLook(t, net, 0, api.State{Count: 4, Files: 2, Records: 2})
}

func TestTwentyFiles(t *testing.T) {
	net := begun(t, 2)
	var paths []string
	for i := range 20 {
		path := "f" + string(rune('a'+i))
		paths = append(paths, path)
		mustWrite(t, net, 1, path, path)
	}
	if e := net.Write(1, "g", ""); e != api.ErrFull {
		t.Errorf("P3: Write of a file above twenty = %d", e)
	}
	if e := net.Write(1, "g", longText); e != api.ErrLong {
		t.Errorf("P1: Write of a file above twenty, too long = %d", e)
	}
	wantList(t, net, 1, paths...)
	wantLook(t, net, 1, api.State{Count: 20, Files: 20, Records: 20})
	mustWrite(t, net, 1, "fa", "anew")
	mustWrite(t, net, 0, "g", "elsewhere")
	if e := net.Remove(1, "fa"); e != api.OK {
		t.Errorf("P3: Remove of one of twenty = %d", e)
	}
	mustWrite(t, net, 1, "g", "")
	wantLook(t, net, 1, api.State{Count: 23, Files: 20, Records: 20})
}

func TestListRisesByBytes(t *testing.T) {
	net := begun(t, 1)
	for _, path := range []string{"b", "ab", "a/", "z", "aa", "/z", "a", "/"} {
		mustWrite(t, net, 0, path, "")
	}
	wantList(t, net, 0, "/", "/z", "a", "a/", "aa", "ab", "b", "z")
}

// spoil writes over a list and its spare room.
func spoil(list []string) {
	list = list[:cap(list)]
	for i := range list {
		list[i] = "spoiled"
	}
}

func TestListsAreTheCallers(t *testing.T) {
	net := begun(t, 1)
	want := []string{"a", "b", "c", "d", "e"}
	for _, path := range want {
		mustWrite(t, net, 0, path, "")
	}
	before, _ := net.List(0)
	spoiled, _ := net.List(0)
	spoil(spoiled)
	if !slices.Equal(before, want) {
		t.Errorf("P2: a list that came out before: %q", before)
	}
	wantList(t, net, 0, want...)
	mustWrite(t, net, 0, "f", "")
	spoil(before)
	wantList(t, net, 0, append(want, "f")...)
	for i := range spoiled {
		if spoiled[i] != "spoiled" {
			t.Errorf("P2: a caller's list was changed: %q", spoiled)
		}
	}
}

func TestNetsDoNotTouchEachOther(t *testing.T) {
	one, other := begun(t, 2), begun(t, 2)
	mustWrite(t, one, 0, "a", "x")
	wantList(t, other, 0)
	wantLook(t, other, 0, api.State{})
	mustWrite(t, other, 0, "a", "y")
	wantRead(t, one, 0, "a", "x")
}

func TestNoNetHasNoReplicas(t *testing.T) {
	for _, net := range []*reunion.Net{nil, {}} {
		refuses(t, net, 0, "a", api.ErrNumber)
		if l, e := net.List(0); l != nil || e != api.ErrNumber {
			t.Errorf("P1: List(0) of no net = %q, %d", l, e)
		}
		if s, e := net.Look(0); s != (api.State{}) || e != api.ErrNumber {
			t.Errorf("P1: Look(0) of no net = %+v, %d", s, e)
		}
	}
}

// model is a net told as plainly as can be: texts by path, and a count.
type model struct {
	texts map[string]string
	count int
}

func (m *model) write(path string, text string) api.Errno {
	_, there := m.texts[path]
	switch {
	case path == "" || path == "A":
		return api.ErrPath
	case len(text) > 60:
		return api.ErrLong
	case !there && len(m.texts) == 20:
		return api.ErrFull
	}
	m.texts[path] = text
	m.count++
	return api.OK
}

func (m *model) remove(path string) api.Errno {
	_, there := m.texts[path]
	switch {
	case path == "" || path == "A":
		return api.ErrPath
	case !there:
		return api.ErrNone
	}
	delete(m.texts, path)
	m.count++
	return api.OK
}

func (m *model) compare(t *testing.T, net *reunion.Net, r int) {
	t.Helper()
	var paths []string
	for path, text := range m.texts {
		paths = append(paths, path)
		wantRead(t, net, r, path, text)
	}
	slices.Sort(paths)
	wantList(t, net, r, paths...)
	wantLook(t, net, r, api.State{Count: m.count, Files: len(paths), Records: len(paths)})
}

func TestManyCallsAgainstAModel(t *testing.T) {
	random := rand.New(rand.NewSource(1))
	for n := 1; n <= 6; n++ {
		net := begun(t, n)
		models := make([]model, n)
		for r := range models {
			models[r].texts = map[string]string{}
		}
		for range 2000 {
			r, path := random.Intn(n), somePath(random)
			if random.Intn(5) == 0 {
				if e, want := net.Remove(r, path), models[r].remove(path); e != want {
					t.Fatalf("P3: Remove(%d, %q) = %d, want %d", r, path, e, want)
				}
			} else {
				text := strings.Repeat("t", random.Intn(63))
				if e, want := net.Write(r, path, text), models[r].write(path, text); e != want {
					t.Fatalf("P3: Write(%d, %q, %q) = %d, want %d", r, path, text, e, want)
				}
			}
			models[r].compare(t, net, r)
		}
	}
}

func somePath(random *rand.Rand) string {
	switch i := random.Intn(28); i {
	case 0:
		return ""
	case 1:
		return "A"
	default:
		return "/" + string(rune('a'+i-2))
	}
}
