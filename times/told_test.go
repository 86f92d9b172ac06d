package times

import (
	"strings"
	"testing"
)

func TestEventsAreToldAndRead(t *testing.T) {
	for text, want := range map[string]Event{
		"0:1": {0, 1}, "1:2": {1, 2}, "5:1000000000": {5, 1000000000}, "3:10": {3, 10},
	} {
		if got := want.Told(); got != text {
			t.Errorf("P8: %v told as %q, want %q", want, got, text)
		}
		if e, ok := ReadEvent(text, 6); e != want || !ok {
			t.Errorf("P8: ReadEvent(%q) = %v, %t", text, e, ok)
		}
	}
}

func TestReadEventRefuses(t *testing.T) {
	for _, text := range []string{
		"", ":", "0", "0:", ":1", "0:0", "0:01", "00:1", "-0:1", "0:-1", "-1:1", "0:1:1", "0::1", "0,1", "0;1", "0 :1", "0: 1", "0:1 ",
		"2:1", "3:1", "6:1", "7:1", "1000000000:1", "1000000001:1", "0:1000000001", strings.Repeat("9", 1<<16) + ":1",
	} {
		if e, ok := ReadEvent(text, 2); e != (Event{}) || ok {
			t.Errorf("P8: ReadEvent(%.40q) = %v, %t", text, e, ok)
		}
	}
	if e, ok := ReadEvent("6:1", 6); e != (Event{}) || ok {
		t.Errorf("P8: ReadEvent of a seventh replica = %v, %t", e, ok)
	}
}

func TestTimesAreToldAndRead(t *testing.T) {
	for text, want := range map[string]Time{
		"0": {}, "7": {7}, "0,0": {}, "1,0": {1}, "0,12": {0, 12}, "3,2,1": {3, 2, 1},
		"0,0,0,0,0,0": {}, "1,20,300,4000,50000,1000000000": {1, 20, 300, 4000, 50000, 1000000000},
	} {
		n := 1 + strings.Count(text, ",")
		if got := want.Told(n); got != text {
			t.Errorf("P8: %v told as %q, want %q", want, got, text)
		}
		if got, ok := ReadTime(text, n); got != want || !ok {
			t.Errorf("P8: ReadTime(%q, %d) = %v, %t", text, n, got, ok)
		}
	}
}

func TestReadTimeRefuses(t *testing.T) {
	for n, all := range map[int][]string{
		1: {"", ",", "0,", ",0", "0,0", "-", "-1", "01", "1000000001", strings.Repeat("1", 1<<16)},
		2: {"", "0", ",", "0,", ",0", "0,0,", ",0,0", "0,0,0", "0,,0", "0,00", "00,0", "0, 0", "0 ,0", " 0,0", "0,0 ", "0;0", "0.0", "0,-1", "0,1000000001", "1000000001,0"},
		6: {"0,0,0,0,0", "0,0,0,0,0,0,0", "0,0,0,0,0,0,", "0,0,0,0,0,x", strings.Repeat("0,", 1<<16) + "0", strings.Repeat(",", 1<<16)},
	} {
		for _, text := range all {
			if got, ok := ReadTime(text, n); got != (Time{}) || ok {
				t.Errorf("P8: ReadTime(%.40q, %d) = %v, %t", text, n, got, ok)
			}
		}
	}
}
