// Package replica: one place of a net, with its files and what it knows.
package replica

import (
	"slices"
	"strings"

	"reunion/api"
	"reunion/times"
)

// Replica is one place of a net.
type Replica struct {
	self    int
	common  times.Time
	records map[string]record // own numbers may lag behind: ask recordOf
}

// New makes the replica of this number, without files.
func New(self int) *Replica {
	return &Replica{self: self, records: map[string]record{}}
}

// Write writes a text; the path and the text are such as may be.
func (r *Replica) Write(path string, text string) api.Errno {
	rec := r.recordOf(path)
	if r.countIsFull() || r.hasNoRoomFor(rec) {
		return api.ErrFull
	}
	now := r.next()
	// The caller's text may be a small piece of a great one, which would be
	// held with it.
	rec.write(strings.Clone(text), now)
	rec.hear(now.Alone())
	r.keep(path, rec)
	return api.OK
}

// Remove removes a file.
func (r *Replica) Remove(path string) api.Errno {
	rec := r.recordOf(path)
	if !rec.isThere() {
		return api.ErrNone
	}
	if r.countIsFull() {
		return api.ErrFull
	}
	now := r.next()
	rec.remove()
	rec.hear(now.Alone())
	r.keep(path, rec)
	return api.OK
}

// Read tells a file's text.
func (r *Replica) Read(path string) (string, api.Errno) {
	rec := r.recordOf(path)
	if !rec.isThere() {
		return "", api.ErrNone
	}
	return rec.text, api.OK
}

// List tells the paths of the files that are there, rising.
func (r *Replica) List() []string {
	var paths []string
	for path, rec := range r.records {
		if rec.isThere() {
			paths = append(paths, path)
		}
	}
	slices.Sort(paths)
	return paths
}

// Look tells how the replica stands.
func (r *Replica) Look() api.State {
	return api.State{Count: r.count(), Files: r.files(), Records: len(r.records)}
}

func (r *Replica) count() int { return r.common[r.self] }

// countIsFull says whether the count can go no higher.
func (r *Replica) countIsFull() bool { return r.count() >= api.MaxCount }

// hasNoRoomFor says whether a file of this record would be one too many.
func (r *Replica) hasNoRoomFor(rec record) bool {
	return !rec.isThere() && r.files() >= api.MaxFiles
}

func (r *Replica) files() int {
	n := 0
	for _, rec := range r.records {
		if rec.isThere() {
			n++
		}
	}
	return n
}

// next counts one thing more that is done here, and tells its event.
func (r *Replica) next() times.Event {
	now := times.Event{Replica: r.self, Number: r.count() + 1}
	r.common = times.Greatest(r.common, now.Alone())
	return now
}

// recordOf is what stands of a path, kept or not. The own number is filled in
// here, since it is the count for every path, and the count alone goes up.
func (r *Replica) recordOf(path string) record {
	rec, kept := r.records[path]
	if !kept {
		rec.known = r.common
	}
	rec.known[r.self] = r.count()
	return rec
}

// keep puts a record in its place, or drops it, if nothing needs it.
func (r *Replica) keep(path string, rec record) {
	if rec.mustBeKept(r.common) {
		r.records[strings.Clone(path)] = rec
	} else {
		delete(r.records, path)
	}
}
