package replica

import (
	"testing"

	"reunion/api"
	"reunion/times"
)

func born(text string, replica int, number int, changes times.Time) file {
	return file{text: text, birth: times.Event{Replica: replica, Number: number}, changes: changes}
}

// none is a record of no file.
func none(known times.Time) record { return record{knowledge: knowledge{known}} }

func one(f file, known times.Time) record { return record{f, knowledge{known}} }

// The records of TO, replica 0, and FROM, replica 1, in every case of a pull
// with each of its ends; want is TO's record behind it.
func TestCasesOfAPull(t *testing.T) {
	old := born("old", 2, 1, times.Time{0, 0, 1})
	mine := born("mine", 2, 1, times.Time{4, 0, 1})
	yours := born("yours", 2, 1, times.Time{0, 5, 1})
	other := born("other", 1, 5, times.Time{0, 5})
	for _, c := range []struct {
		name     string
		to, from record
		what     int
		want     record
	}{
		{"in neither", none(times.Time{4, 1, 3}), none(times.Time{2, 5, 2}),
			api.Nothing, none(times.Time{4, 5, 3})},

		{"in both, alike", one(old, times.Time{4, 1, 3}), one(old, times.Time{2, 5, 2}),
			api.Nothing, one(old, times.Time{4, 5, 3})},
		{"in both, alike, though neither knows of it", one(old, times.Time{4}), one(old, times.Time{0, 5}),
			api.Nothing, one(old, times.Time{4, 5})},
		{"in both, to is ahead", one(mine, times.Time{4, 1, 1}), one(old, times.Time{3, 5, 2}),
			api.Nothing, one(mine, times.Time{4, 5, 2})},
		{"in both, from is ahead", one(old, times.Time{4, 4, 3}), one(yours, times.Time{2, 5, 1}),
			api.Copied, one(yours, times.Time{4, 5, 3})},
		{"in both, from is ahead, born anew", one(old, times.Time{4, 4, 3}), one(other, times.Time{2, 5, 1}),
			api.Copied, one(other, times.Time{4, 5, 3})},
		{"in both, neither knows the other's", one(mine, times.Time{4, 4, 1}), one(yours, times.Time{3, 5, 2}),
			api.Conflict, one(mine, times.Time{4, 4, 1})},
		{"in both, each knows the other's", one(mine, times.Time{4, 5, 1}), one(yours, times.Time{4, 5, 2}),
			api.Conflict, one(mine, times.Time{4, 5, 1})},
		{"in both, births alone unlike", one(born("x", 0, 4, times.Time{4, 5}), times.Time{4, 5}),
			one(born("y", 1, 5, times.Time{4, 5}), times.Time{4, 6}),
			api.Conflict, one(born("x", 0, 4, times.Time{4, 5}), times.Time{4, 5})},
		{"in both, changes alone unlike", one(born("x", 1, 1, times.Time{0, 1}), times.Time{4, 1}),
			one(born("y", 1, 1, times.Time{0, 2}), times.Time{0, 2}),
			api.Copied, one(born("y", 1, 1, times.Time{0, 2}), times.Time{4, 2})},

		{"in from alone, thrown away in to", none(times.Time{4, 5, 1}), one(yours, times.Time{2, 6, 3}),
			api.Nothing, none(times.Time{4, 6, 3})},
		{"in from alone, new", none(times.Time{4, 9, 0}), one(yours, times.Time{2, 6, 3}),
			api.Copied, one(yours, times.Time{4, 9, 3})},
		{"in from alone, changed since to threw it away", none(times.Time{4, 4, 1}), one(yours, times.Time{2, 6, 3}),
			api.Conflict, none(times.Time{4, 4, 1})},

		{"in to alone, from is a stranger", one(mine, times.Time{4, 4, 1}), none(times.Time{9, 5, 0}),
			api.Nothing, one(mine, times.Time{4, 4, 1})},
		{"in to alone, thrown away in from", one(mine, times.Time{5, 4, 1}), none(times.Time{4, 5, 3}),
			api.Removed, none(times.Time{5, 5, 3})},
		{"in to alone, changed since from threw it away", one(mine, times.Time{4, 4, 1}), none(times.Time{3, 5, 3}),
			api.Conflict, one(mine, times.Time{4, 4, 1})},
	} {
		if rec, what := pull(c.to, c.from); rec != c.want || what != c.what {
			t.Errorf("P4: %s: %+v, %d, want %+v, %d", c.name, rec, what, c.want, c.what)
		}
	}
}
