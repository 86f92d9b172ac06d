package reunion

import (
	"strconv"
	"strings"

	"reunion/api"
	"reunion/replica"
	"reunion/times"
	"reunion/told"
)

const heading = "reunion "

// linesOf tells all of a net, but for the sum.
func (t *Net) linesOf() []string {
	n := len(t.replicas)
	lines := []string{heading + strconv.Itoa(n)}
	for _, r := range t.replicas {
		lines = append(lines, r.Lines(n)...)
	}
	return lines
}

// netOf reads the net that a text tells.
func netOf(text string) (*Net, bool) {
	body, isSealed := told.Unseal(text)
	if !isSealed {
		return nil, false
	}
	first, rest, _ := strings.Cut(body, "\n")
	t, isBegun := beginning(first)
	if !isBegun {
		return nil, false
	}
	for self := range t.replicas {
		var isRead bool
		t.replicas[self], rest, isRead = replica.ReadLines(rest, self, len(t.replicas))
		if !isRead {
			return nil, false
		}
	}
	return t, rest == "" && t.isWithinItsCounts()
}

// beginning is the net, without files, that the first line tells.
func beginning(first string) (*Net, bool) {
	number, isHeaded := strings.CutPrefix(first, heading)
	n, isNumber := told.ReadNumber(number)
	if !isHeaded || !isNumber {
		return nil, false
	}
	t, e := New(n)
	return t, e == api.OK
}

// isWithinItsCounts says whether no replica knows of an event that another one
// has not counted yet.
func (t *Net) isWithinItsCounts() bool {
	var counts times.Time
	for i, r := range t.replicas {
		counts[i] = r.Look().Count
	}
	for _, r := range t.replicas {
		if !r.IsWithin(counts) {
			return false
		}
	}
	return true
}
