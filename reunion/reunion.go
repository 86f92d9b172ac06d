// Package reunion: files that part and come together again: see DOC.md.
package reunion

import (
	"strings"

	"reunion/api"
	"reunion/replica"
	"reunion/told"
)

// Net is all replicas.
type Net struct {
	replicas []*replica.Replica
}

// New makes a net (P3).
func New(n int) (*Net, api.Errno) {
	if n < 1 || n > api.MaxReplicas {
		return nil, api.ErrNumber
	}
	t := &Net{}
	for r := range n {
		t.replicas = append(t.replicas, replica.New(r))
	}
	return t, api.OK
}

// Write writes a file (P3).
func (t *Net) Write(r int, path string, text string) api.Errno {
	place, e := t.placeOf(r, path)
	if e != api.OK {
		return e
	}
	if len(text) > api.MaxText {
		return api.ErrLong
	}
	return place.Write(path, text)
}

// Remove removes one (P3).
func (t *Net) Remove(r int, path string) api.Errno {
	place, e := t.placeOf(r, path)
	if e != api.OK {
		return e
	}
	return place.Remove(path)
}

// Read tells a file's text (P3).
func (t *Net) Read(r int, path string) (string, api.Errno) {
	place, e := t.placeOf(r, path)
	if e != api.OK {
		return "", e
	}
	return place.Read(path)
}

// List tells the paths of a replica's files (P3).
func (t *Net) List(r int) ([]string, api.Errno) {
	if !t.has(r) {
		return nil, api.ErrNumber
	}
	return t.replicas[r].List(), api.OK
}

// Look tells how a replica stands (P3).
func (t *Net) Look(r int) (api.State, api.Errno) {
	if !t.has(r) {
		return api.State{}, api.ErrNumber
	}
	return t.replicas[r].Look(), api.OK
}

// PullPath pulls a path (P4).
func (t *Net) PullPath(to int, from int, path string) (int, api.Errno) {
	place, source, e := t.placesOf(to, from, path)
	if e != api.OK {
		return api.Nothing, e
	}
	return place.PullPath(source, path)
}

// Pull pulls all (P5).
func (t *Net) Pull(to int, from int) ([]api.Change, api.Errno) {
	return t.Round([]api.Pair{{To: to, From: from}})
}

// Resolve ends a conflict (P6).
func (t *Net) Resolve(to int, from int, path string, theirs bool) api.Errno {
	place, source, e := t.placesOf(to, from, path)
	if e != api.OK {
		return e
	}
	return place.Resolve(source, path, theirs)
}

// Round pulls by several pairs (P7).
func (t *Net) Round(pairs []api.Pair) ([]api.Change, api.Errno) {
	if !t.arePairs(pairs...) {
		return nil, api.ErrNumber
	}
	if !areApart(pairs) {
		return nil, api.ErrBusy
	}
	pulls := t.pullsOf(pairs)
	var changes []api.Change
	for _, p := range pulls {
		if p.refusal != api.OK {
			return nil, p.refusal
		}
		changes = append(changes, p.changes...)
	}
	for i, p := range pulls {
		t.replicas[pairs[i].To] = p.after
	}
	return changes, api.OK
}

// Pack tells all of a net (P8). Where there is none, there is nothing to tell.
func (t *Net) Pack() string {
	if !t.has(0) {
		return ""
	}
	return told.Seal(strings.Join(t.linesOf(), "\n") + "\n")
}

// Unpack reads what Pack told (P8).
func Unpack(text string) (*Net, api.Errno) {
	t, isNet := netOf(text)
	if !isNet {
		return nil, api.ErrText
	}
	return t, api.OK
}

// has says whether r is a replica. A nil net has none: a caller who went on
// past an error of New is refused, too.
func (t *Net) has(r int) bool { return t != nil && 0 <= r && r < len(t.replicas) }

// placeOf is the replica r, unless it or the path is refused.
func (t *Net) placeOf(r int, path string) (*replica.Replica, api.Errno) {
	if !t.has(r) {
		return nil, api.ErrNumber
	}
	if !replica.IsPath(path) {
		return nil, api.ErrPath
	}
	return t.replicas[r], api.OK
}

// placesOf is the replicas to and from, unless they or the path are refused.
func (t *Net) placesOf(to int, from int, path string) (place, source *replica.Replica, e api.Errno) {
	if !t.arePairs(api.Pair{To: to, From: from}) {
		return nil, nil, api.ErrNumber
	}
	place, e = t.placeOf(to, path)
	if e != api.OK {
		return nil, nil, e
	}
	return place, t.replicas[from], api.OK
}
