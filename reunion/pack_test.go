package reunion_test

import (
	"fmt"
	"math/rand"
	"slices"
	"strings"
	"testing"

	"reunion/api"
	"reunion/reunion"
)

// sealed is the lines of a net, with their sum behind them.
func sealed(lines ...string) string {
	body := strings.Join(lines, "\n") + "\n"
	return body + fmt.Sprintf("sum %d\n", plainSum(body))
}

// plainSum is of texts that are short enough to do without a bound.
func plainSum(body string) uint64 {
	var total uint64
	for i := range len(body) {
		total += uint64(i+1) * uint64(body[i])
	}
	return total % 1000003
}

func wantPack(t *testing.T, net *reunion.Net, lines ...string) {
	t.Helper()
	if got, want := net.Pack(), sealed(lines...); got != want {
		t.Errorf("P8: Pack() = %q, want %q", got, want)
	}
}

func mustUnpack(t *testing.T, text string) *reunion.Net {
	t.Helper()
	net, e := reunion.Unpack(text)
	if net == nil || e != api.OK {
		t.Fatalf("P8: Unpack(%.300q) = %v, %d", text, net, e)
	}
	return net
}

// again is the net packed and unpacked.
func again(t *testing.T, net *reunion.Net) *reunion.Net {
	t.Helper()
	text := net.Pack()
	other := mustUnpack(t, text)
	if got := other.Pack(); got != text {
		t.Fatalf("P8: unpacked and packed again: %q, want %q", got, text)
	}
	return other
}

func TestExample4(t *testing.T) {
	net := begun(t, 2)
	if got, want := net.Pack(), "reunion 2\nreplica 0,0\nreplica 0,0\nsum 42566\n"; got != want {
		t.Errorf("P8: Pack() of New(2) = %q, want %q", got, want)
	}
	mustWrite(t, net, 0, "a", "x")
	wantPack(t, net, "reunion 2", "replica 1,0", "a 1,0 0:1 1,0 =78", "replica 0,0")
}

func TestPackOfOneReplicaAndOfSix(t *testing.T) {
	one, six := begun(t, 1), begun(t, 6)
	wantPack(t, one, "reunion 1", "replica 0")
	mustWrite(t, one, 0, "sum", "reunion")
	wantPack(t, one, "reunion 1", "replica 1", "sum 1 0:1 1 =7265756e696f6e")
	mustWrite(t, six, 5, "replica", "")
	nought := "replica 0,0,0,0,0,0"
	wantPack(t, six, "reunion 6", nought, nought, nought, nought, nought,
		"replica 0,0,0,0,0,1", "replica 0,0,0,0,0,1 5:1 0,0,0,0,0,1 =")
	again(t, one)
	again(t, six)
}

func TestPackBehindEveryKindOfCall(t *testing.T) {
	net := begun(t, 3)
	mustWrite(t, net, 0, "b", "old")
	mustWrite(t, net, 0, "a", "")
	wantPull(t, net, 1, 0, "a+ b+")
	mustWrite(t, net, 1, "b", "new")
	mustRemove(t, net, 1, "a")
	two := []string{"replica 2,2,0", "b 2,2,0 0:1 1,1,0 =6e6577"}
	wantPack(t, net, slices.Concat([]string{"reunion 3", "replica 2,0,0", "a 2,0,0 0:2 2,0,0 =", "b 2,0,0 0:1 1,0,0 =6f6c64"},
		two, []string{"replica 0,0,0"})...)
	// The removal alone is heard of: a is not there in 2, and known better
	// than other paths.
	wantPullPath(t, net, 2, 1, "a", api.Nothing)
	wantPullPath(t, net, 0, 1, "a", api.Removed)
	mustWrite(t, net, 0, "b", "\xff")
	wantPull(t, net, 0, 1, "b!")
	wantPack(t, net, slices.Concat([]string{"reunion 3", "replica 3,2,0", "b 3,0,0 0:1 3,0,0 =ff"},
		two, []string{"replica 0,0,0", "a 2,2,0 -"})...)
	mustResolve(t, net, 0, 1, "b", true)
	wantPack(t, net, slices.Concat([]string{"reunion 3", "replica 4,2,0", "b 4,2,0 0:4 4,1,0 =6e6577"},
		two, []string{"replica 0,0,0", "a 2,2,0 -"})...)
	again(t, net)
}

func TestPackTellsRecordsRising(t *testing.T) {
	net := begun(t, 2)
	for _, path := range []string{"b", "a/b", "z", "a", "/", "ab"} {
		mustWrite(t, net, 1, path, "")
	}
	mustRemove(t, net, 1, "ab")
	for _, path := range []string{"z", "ab", "a/b"} {
		net.PullPath(0, 1, path)
	}
	var paths []string
	for line := range strings.Lines(net.Pack()) {
		paths = append(paths, strings.Fields(line)[0])
	}
	want := []string{"reunion", "replica", "a/b", "ab", "z", "replica", "/", "a", "a/b", "b", "z", "sum"}
	if !slices.Equal(paths, want) {
		t.Errorf("P8: lines of %q, want %q", paths, want)
	}
	again(t, net)
}

func TestPackOfEveryByte(t *testing.T) {
	net := begun(t, 1)
	lines := []string{"reunion 1", "replica 9"}
	for i := range 9 {
		text := make([]byte, 60)
		for k := range text {
			text[k] = byte(30*i + k)
		}
		path := string(rune('a' + i))
		mustWrite(t, net, 0, path, string(text))
		lines = append(lines, fmt.Sprintf("%s 9 0:%d %d =%x", path, i+1, i+1, text))
	}
	wantPack(t, net, lines...)
	other := again(t, net)
	if standing(other, 1) != standing(net, 1) {
		t.Errorf("P8: unpacked: %q, want %q", standing(other, 1), standing(net, 1))
	}
}

func TestPackOfNoNet(t *testing.T) {
	for _, net := range []*reunion.Net{nil, {}} {
		if text := net.Pack(); text != "" {
			t.Errorf("P1: Pack() of no net = %q", text)
		}
	}
}

func TestPackChangesNothing(t *testing.T) {
	net := begun(t, 2)
	mustWrite(t, net, 0, "a", "x")
	before, first := standing(net, 2), net.Pack()
	if net.Pack() != first || standing(net, 2) != before {
		t.Errorf("P8: packed twice: %q, %q", first, net.Pack())
	}
	mustWrite(t, net, 0, "a", "y")
	if net.Pack() == first {
		t.Errorf("P8: Pack() tells an old net: %q", first)
	}
}

// text is the net told by its sets.
func (s *sets) text() string {
	n := len(s.places)
	tell := func(numbers [6]int) string {
		return strings.Trim(strings.ReplaceAll(fmt.Sprint(numbers[:n]), " ", ","), "[]")
	}
	lines := []string{fmt.Sprint("reunion ", n)}
	for _, p := range s.places {
		common := p.heard[never].numbers
		lines = append(lines, "replica "+tell(common))
		for _, path := range s.paths {
			known := p.heard[path].numbers
			if v, there := p.files[path]; there {
				lines = append(lines, fmt.Sprintf("%s %s %d:%d %s =%x",
					path, tell(known), v.birth.replica, v.birth.number, tell(v.events.last()), v.text))
			} else if known != common {
				lines = append(lines, fmt.Sprintf("%s %s -", path, tell(known)))
			}
		}
	}
	return sealed(lines...)
}

// last is the last event of each replica.
func (s events) last() [6]int {
	var numbers [6]int
	for e := range s {
		numbers[e.replica] = max(numbers[e.replica], e.number)
	}
	return numbers
}

func TestPackTellsAllThatWasDone(t *testing.T) {
	random := rand.New(rand.NewSource(9))
	records := 0
	for _, c := range []struct{ nets, replicas, paths, steps int }{
		{100, 2, 2, 60}, {100, 3, 2, 80}, {50, 4, 3, 100}, {30, 6, 3, 200}, {5, 3, 26, 500},
	} {
		for range c.nets {
			net, s := begun(t, c.replicas), newSets(c.replicas, somePaths(c.paths))
			for range c.steps {
				step(t, random, net, s)
				text := net.Pack()
				if want := s.text(); text != want {
					t.Fatalf("P8: Pack() = %q, want %q", text, want)
				}
				records += strings.Count(text, " -\n")
				// From here on the unpacked one is asked, against the same sets.
				if random.Intn(4) == 0 {
					net = again(t, net)
				}
			}
		}
	}
	if records < 1000 {
		t.Errorf("P8: %d records of files that are not there: too few to tell", records)
	}
}

func TestUnpackedNetsStandByThemselves(t *testing.T) {
	net := begun(t, 2)
	mustWrite(t, net, 0, "a", "x")
	text := net.Pack()
	one, other := mustUnpack(t, text), mustUnpack(t, text)
	mustWrite(t, one, 0, "a", "y")
	wantPull(t, other, 1, 0, "a+")
	wantPack(t, net, "reunion 2", "replica 1,0", "a 1,0 0:1 1,0 =78", "replica 0,0")
	wantPack(t, one, "reunion 2", "replica 2,0", "a 2,0 0:1 2,0 =79", "replica 0,0")
	wantPack(t, other, "reunion 2", "replica 1,0", "a 1,0 0:1 1,0 =78", "replica 1,0", "a 1,0 0:1 1,0 =78")
}
