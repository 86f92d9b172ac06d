package replica

import (
	"math/rand"
	"slices"
	"strings"
	"testing"

	"reunion/times"
)

// some is a replica with a file, and with a record of one that is not there.
func some() *Replica {
	r := New(1)
	r.common = times.Time{4, 3, 0}
	r.keep("gone", none(times.Time{5, 3, 0}))
	r.keep("a", one(born("x\n", 0, 2, times.Time{2, 3, 1}), times.Time{4, 3, 1}))
	return r
}

var someLines = []string{"replica 4,3,0", "a 4,3,1 0:2 2,3,1 =780a", "gone 5,3,0 -"}

func TestLines(t *testing.T) {
	if got := some().Lines(3); !slices.Equal(got, someLines) {
		t.Errorf("P8: lines %q, want %q", got, someLines)
	}
	if got := New(0).Lines(1); !slices.Equal(got, []string{"replica 0"}) {
		t.Errorf("P8: lines of an empty replica: %q", got)
	}
}

func TestLinesTellTheOwnNumberOfNow(t *testing.T) {
	r := some()
	wrote(t, r, "b", "")
	want := []string{"replica 4,4,0", "a 4,4,1 0:2 2,3,1 =780a", "b 4,4,0 1:4 0,4,0 =", "gone 5,4,0 -"}
	if got := r.Lines(3); !slices.Equal(got, want) {
		t.Errorf("P8: lines %q, want %q", got, want)
	}
}

func TestReadLines(t *testing.T) {
	text := strings.Join(someLines, "\n") + "\n"
	for _, behind := range []string{"", "\n", "replica 1,2,3\nb 1,2,3 -\n", "replica 1,2,3", "sum 1\n", " \n"} {
		r, rest, ok := ReadLines(text+behind, 1, 3)
		if r == nil || rest != behind || !ok {
			t.Fatalf("P8: ReadLines, with %q behind = %v, %q, %t", behind, r, rest, ok)
		}
		wantSame(t, r, some())
	}
}

func TestReadLinesRefuses(t *testing.T) {
	for _, text := range []string{
		"", "\n", "replica\n", "replica \n", "replica 4,3\n", "replica 4,3,0,0\n", "replica 4,3,0 \n", " replica 4,3,0\n",
		"Replica 4,3,0\n", "reunion 4,3,0\n", "a 4,3,1 -\n", "\nreplica 4,3,0\n",
		"replica 4,3,0\na 4,3,0 -\n", "replica 4,3,0\na 4,2,1 -\n", "replica 4,3,0\na 4,4,1 -\n",
		"replica 4,3,0\na 4,3,1 \n", "replica 4,3,0\n 4,3,1 -\n", "replica 4,3,0\na 4,3 -\n", "replica 4,3,0\na - 4,3,1\n",
		"replica 4,3,0\na 4,3,1 - -\n", "replica 4,3,0\na 4,3,1 0:2 2,3,1\n", "replica 4,3,0\na 4,3,1 0:2 2,3,1 =00 \n",
		"replica 4,3,0\na 4,3,1 0:2 2,3,1 =00 =00\n", "replica 4,3,0\na 4,3,1 0:3 2,3,1 =\n", "replica 4,3,0\na 4,3,1 0:2 2,3,2 =\n",
		"replica 4,3,0\nb 4,3,1 -\na 4,3,1 -\n", "replica 4,3,0\na 4,3,1 -\na 4,3,1 -\n",
		"replica 4,3,0\na" + strings.Repeat(" ", 1<<16) + "\n",
	} {
		if r, rest, ok := ReadLines(text, 1, 3); r != nil || rest != "" || ok {
			t.Errorf("P8: ReadLines(%.80q) = %v, %q, %t", text, r, rest, ok)
		}
	}
}

func TestEveryReplicaIsReadAsItIs(t *testing.T) {
	random := rand.New(rand.NewSource(8))
	for range 200 {
		net := someNet(random)
		for self, r := range net {
			text := strings.Join(r.Lines(len(net)), "\n") + "\n"
			again, rest, ok := ReadLines(text, self, len(net))
			if again == nil || rest != "" || !ok {
				t.Fatalf("P8: ReadLines(%q) = %v, %q, %t", text, again, rest, ok)
			}
			wantSame(t, again, r)
		}
	}
}

func TestIsWithin(t *testing.T) {
	r := some()
	for _, c := range []struct {
		counts times.Time
		want   bool
	}{
		{times.Time{5, 3, 1}, true}, {times.Time{9, 9, 9, 9}, true},
		{times.Time{4, 3, 1}, false}, {times.Time{5, 2, 1}, false}, {times.Time{5, 3, 0}, false},
	} {
		if got := r.IsWithin(c.counts); got != c.want {
			t.Errorf("P8: IsWithin(%v) = %t", c.counts, got)
		}
	}
	empty := New(0)
	empty.common = times.Time{1, 2}
	if !empty.IsWithin(times.Time{1, 2}) || empty.IsWithin(times.Time{1, 1}) {
		t.Error("P8: IsWithin of the common time alone")
	}
}
