package times

import "testing"

func TestAlone(t *testing.T) {
	for _, c := range []struct {
		event Event
		want  Time
	}{
		{Event{0, 1}, Time{1}},
		{Event{5, 1000000000}, Time{0, 0, 0, 0, 0, 1000000000}},
		{Event{2, 7}, Time{0, 0, 7}},
	} {
		if got := c.event.Alone(); got != c.want {
			t.Errorf("%v.Alone() = %v, want %v", c.event, got, c.want)
		}
	}
}

func TestGreatest(t *testing.T) {
	for _, c := range []struct {
		all  []Time
		want Time
	}{
		{nil, Time{}},
		{[]Time{{3, 1}}, Time{3, 1}},
		{[]Time{{3, 1}, {2, 4}}, Time{3, 4}},
		{[]Time{{2, 4}, {3, 1}}, Time{3, 4}},
		{[]Time{{1, 0, 0, 0, 0, 9}, {0, 2}, {0, 1, 5, 0, 0, 8}}, Time{1, 2, 5, 0, 0, 9}},
	} {
		if got := Greatest(c.all...); got != c.want {
			t.Errorf("Greatest(%v) = %v, want %v", c.all, got, c.want)
		}
	}
}

func TestGreatestLeavesWhatItIsGiven(t *testing.T) {
	all := []Time{{1}, {0, 2}}
	Greatest(all...)
	if all[0] != (Time{1}) || all[1] != (Time{0, 2}) {
		t.Errorf("P2: behind Greatest: %v", all)
	}
}

func TestHas(t *testing.T) {
	for _, c := range []struct {
		time  Time
		event Event
		want  bool
	}{
		{Time{}, Event{0, 1}, false},
		{Time{3}, Event{0, 2}, true},
		{Time{3}, Event{0, 3}, true},
		{Time{3}, Event{0, 4}, false},
		{Time{3}, Event{1, 1}, false},
		{Time{0, 0, 0, 0, 0, 1000000000}, Event{5, 1000000000}, true},
	} {
		if got := c.time.Has(c.event); got != c.want {
			t.Errorf("%v.Has(%v) = %t", c.time, c.event, got)
		}
	}
}

func TestWithin(t *testing.T) {
	for _, c := range []struct {
		time, other Time
		want        bool
	}{
		{Time{}, Time{}, true},
		{Time{2, 3}, Time{2, 3}, true},
		{Time{2, 3}, Time{2, 4}, true},
		{Time{2, 3}, Time{2, 2}, false},
		{Time{2, 3}, Time{9, 2}, false},
		{Time{2, 3}, Time{1, 9}, false},
		{Time{0, 0, 0, 0, 0, 1}, Time{9, 9, 9, 9, 9, 0}, false},
		{Time{9, 9, 9, 9, 9, 0}, Time{9, 9, 9, 9, 9, 1}, true},
	} {
		if got := c.time.Within(c.other); got != c.want {
			t.Errorf("%v.Within(%v) = %t", c.time, c.other, got)
		}
	}
}
