package replica

import (
	"strings"

	"reunion/api"
	"reunion/times"
	"reunion/told"
)

// heading begins the line of the common time. A record of a path that is
// called so has more fields in its line.
const heading = "replica"

// noFile tells a file that is not there.
const noFile = "-"

// Lines tells the replica, of a net of n: its common time, then its records.
func (r *Replica) Lines(n int) []string {
	lines := []string{heading + " " + r.common.Told(n)}
	for _, path := range pathsOf(r) {
		rec := r.recordOf(path)
		lines = append(lines, path+" "+rec.known.Told(n)+" "+rec.told(n))
	}
	return lines
}

func (f file) told(n int) string {
	if !f.isThere() {
		return noFile
	}
	return f.birth.Told() + " " + f.changes.Told(n) + " " + told.Hex(f.text)
}

// ReadLines reads the replica self, of a net of n, from the lines that a text
// begins with, and tells the text behind them.
func ReadLines(text string, self int, n int) (*Replica, string, bool) {
	fields, rest := cutLine(text)
	if len(fields) != 2 || fields[0] != heading {
		return nil, "", false
	}
	r := New(self)
	var isTime bool
	if r.common, isTime = times.ReadTime(fields[1], n); !isTime {
		return nil, "", false
	}
	rest, areRecords := r.readRecords(rest, n)
	if !areRecords || r.files() > api.MaxFiles {
		return nil, "", false
	}
	return r, rest, true
}

// cutLine tells the fields of a text's first line, and the text behind it. A
// file's record has five; of more, the last one holds all that is too much.
func cutLine(text string) ([]string, string) {
	line, rest, _ := strings.Cut(text, "\n")
	return strings.SplitN(line, " ", 6), rest
}

// readRecords keeps the records that a text begins with, and tells the text
// behind them: a line of fewer fields is none of a record.
func (r *Replica) readRecords(text string, n int) (string, bool) {
	last := ""
	for {
		fields, rest := cutLine(text)
		if len(fields) < 3 {
			return text, true
		}
		path := fields[0]
		rec, isRecord := readRecord(fields[1:], n)
		if !isRecord || !IsPath(path) || path <= last || !r.couldKeep(rec) {
			return "", false
		}
		r.keep(path, rec)
		text, last = rest, path
	}
}

// readRecord reads a record from the fields behind its path.
func readRecord(fields []string, n int) (record, bool) {
	known, isTime := times.ReadTime(fields[0], n)
	f, isFile := readFile(fields[1:], n)
	return record{f, knowledge{known}}, isTime && isFile
}

func readFile(fields []string, n int) (file, bool) {
	if len(fields) != 3 {
		return file{}, len(fields) == 1 && fields[0] == noFile
	}
	birth, isEvent := times.ReadEvent(fields[0], n)
	changes, isTime := times.ReadTime(fields[1], n)
	text, isText := told.ReadHex(fields[2])
	return file{text, birth, changes}, isEvent && isTime && isText && changes.Has(birth)
}

// couldKeep says whether this record, read from a text, may stand here.
func (r *Replica) couldKeep(rec record) bool {
	ownIsCount := rec.known[r.self] == r.count()
	return ownIsCount && rec.hasChangesOf(rec.file) && rec.mustBeKept(r.common)
}

// IsWithin says whether nothing is known here that the counts do not have. The
// changes of files need not be asked: what is known has them.
func (r *Replica) IsWithin(counts times.Time) bool {
	for _, rec := range r.records {
		if !rec.known.Within(counts) {
			return false
		}
	}
	return r.common.Within(counts)
}
