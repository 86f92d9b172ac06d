package replica

import (
	"slices"

	"reunion/api"
	"reunion/times"
)

// PullPath pulls a path from another replica, and tells what that has done.
func (r *Replica) PullPath(from *Replica, path string) (int, api.Errno) {
	old := r.recordOf(path)
	rec, what := pull(old, from.recordOf(path))
	if what == api.Copied && r.hasNoRoomFor(old) {
		return api.Nothing, api.ErrFull
	}
	r.keep(path, rec)
	return what, api.OK
}

// Pulled is this replica behind a pull of all from another one, and what that
// has done. The replica itself stays as it is: of several pulls, none may be
// done if one is refused.
func (r *Replica) Pulled(from *Replica) (*Replica, []api.Change, api.Errno) {
	after := New(r.self)
	after.common = times.Greatest(r.common, from.common)
	var changes []api.Change
	for _, path := range pathsOf(r, from) {
		rec, what := pull(r.recordOf(path), from.recordOf(path))
		after.keep(path, rec)
		if what != api.Nothing {
			changes = append(changes, api.Change{Replica: r.self, Path: path, What: what})
		}
	}
	if after.files() > api.MaxFiles {
		return nil, nil, api.ErrFull
	}
	return after, changes, api.OK
}

// Resolve ends a conflict with another replica over a path: by the other's
// file, if theirs is so, else by the own.
func (r *Replica) Resolve(from *Replica, path string, theirs bool) api.Errno {
	own, other := r.recordOf(path), from.recordOf(path)
	if _, what := pull(own, other); what != api.Conflict {
		return api.ErrNone
	}
	rec := own
	if theirs {
		rec.file = other.file
	}
	if r.countIsFull() || rec.isThere() && r.hasNoRoomFor(own) {
		return api.ErrFull
	}
	now := r.next()
	rec.settle(own.file, other.file, now)
	rec.hear(other.known, now.Alone())
	r.keep(path, rec)
	return api.OK
}

// pathsOf is every path of which a record is kept in one of the replicas,
// rising.
func pathsOf(all ...*Replica) []string {
	var paths []string
	for _, r := range all {
		for path := range r.records {
			paths = append(paths, path)
		}
	}
	slices.Sort(paths)
	return slices.Compact(paths)
}
