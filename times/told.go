package times

import (
	"strconv"
	"strings"

	"reunion/told"
)

// Told tells the event.
func (e Event) Told() string {
	return strconv.Itoa(e.Replica) + ":" + strconv.Itoa(e.Number)
}

// ReadEvent reads an event in a net of n replicas; the first one is 1.
func ReadEvent(text string, n int) (Event, bool) {
	replica, number, _ := strings.Cut(text, ":")
	var e Event
	var isReplica, isNumber bool
	e.Replica, isReplica = told.ReadNumber(replica)
	e.Number, isNumber = told.ReadNumber(number)
	if !isReplica || !isNumber || e.Replica >= n || e.Number < 1 {
		return Event{}, false
	}
	return e, true
}

// Told tells a time of a net of n replicas.
func (t Time) Told(n int) string {
	var numbers []string
	for _, number := range t[:n] {
		numbers = append(numbers, strconv.Itoa(number))
	}
	return strings.Join(numbers, ",")
}

// ReadTime reads a time of a net of n replicas.
func ReadTime(text string, n int) (Time, bool) {
	// No more than one piece too many: a text of commas would be a long list.
	numbers := strings.SplitN(text, ",", n+1)
	if len(numbers) != n {
		return Time{}, false
	}
	var t Time
	for i, number := range numbers {
		var isNumber bool
		t[i], isNumber = told.ReadNumber(number)
		if !isNumber {
			return Time{}, false
		}
	}
	return t, true
}
