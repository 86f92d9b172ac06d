// Package times: events, and times that have them.
package times

import "reunion/api"

// Event is something done in a replica: its number is the replica's count then.
type Event struct {
	Replica, Number int
}

// Time has a number for each replica that a net may have. A net with fewer
// leaves the rest at 0, so that == compares times of one net.
type Time [api.MaxReplicas]int

// Alone is the time that is all noughts but for the event.
func (e Event) Alone() Time {
	var t Time
	t[e.Replica] = e.Number
	return t
}

// Has says whether the event is one of those that t has.
func (t Time) Has(e Event) bool { return t[e.Replica] >= e.Number }

// Within says whether none of t's numbers is above the other's.
func (t Time) Within(other Time) bool { return Greatest(t, other) == other }

// Greatest is, number by number, the greatest one of all; all noughts, if
// there are none.
func Greatest(all ...Time) Time {
	var greatest Time
	for _, t := range all {
		for i, number := range t {
			greatest[i] = max(greatest[i], number)
		}
	}
	return greatest
}
