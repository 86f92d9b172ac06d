package replica

import "reunion/times"

// file is what a file has. One that is not there is the zero file: a birth's
// number is at least 1, so that no file that is there looks like it.
type file struct {
	text    string
	birth   times.Event
	changes times.Time
}

func (f file) isThere() bool { return f.birth.Number > 0 }

func (f *file) write(text string, now times.Event) {
	if !f.isThere() {
		f.birth = now
	}
	f.text = text
	f.changes = times.Greatest(f.changes, now.Alone())
}

func (f *file) remove() { *f = file{} }

// isVersion says whether f and the other are one version of the file: an
// event makes one text, so that the texts need not be asked.
func (f file) isVersion(other file) bool {
	return f.birth == other.birth && f.changes == other.changes
}

// settle makes f, chosen out of two that were in conflict, a new version that
// is behind both of them.
func (f *file) settle(one, other file, now times.Event) {
	if f.isThere() {
		f.birth = now
		f.changes = times.Greatest(one.changes, other.changes, now.Alone())
	}
}

// knowledge is what a replica knows of a path.
type knowledge struct {
	known times.Time
}

func (k *knowledge) hear(all ...times.Time) {
	k.known = times.Greatest(k.known, times.Greatest(all...))
}

func (k knowledge) hasBirthOf(f file) bool { return k.known.Has(f.birth) }

func (k knowledge) hasChangesOf(f file) bool { return f.changes.Within(k.known) }

func (k knowledge) isJust(t times.Time) bool { return k.known == t }

// record is all that a replica has of a path.
type record struct {
	file
	knowledge
}

func (rec record) mustBeKept(common times.Time) bool {
	return rec.isThere() || !rec.isJust(common)
}
