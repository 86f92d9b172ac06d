package reunion_test

import (
	"fmt"
	"math/rand"
	"regexp"
	"slices"
	"strconv"
	"strings"
	"testing"

	"reunion/api"
	"reunion/reunion"
)

// right is a net with all that a text can tell: files of others, resolved ones,
// records of files that are not there, known better and less than the rest.
var right = []string{
	"reunion 3",
	"replica 5,2,0",
	"/ 5,2,0 1:2 0,2,0 =",
	"a 5,0,0 -",
	"b 5,1,0 0:3 3,1,0 =00ff",
	"replica 1,2,0",
	"ab 1,2,4 2:1 1,0,4 =7a",
	"replica 0,0,4",
	"a 2,0,4 -",
	"z 1,1,4 -",
}

func wantErrText(t *testing.T, what string, text string) {
	t.Helper()
	if net, e := reunion.Unpack(text); net != nil || e != api.ErrText {
		t.Errorf("P8: %s: Unpack(%.300q) = %v, %d", what, text, net, e)
	}
}

func wantUnpacked(t *testing.T, lines ...string) *reunion.Net {
	t.Helper()
	net := mustUnpack(t, sealed(lines...))
	wantPack(t, net, lines...)
	return net
}

// but is the lines with one of them changed.
func but(t *testing.T, lines []string, line int, old string, text string) []string {
	t.Helper()
	if strings.Count(lines[line], old) != 1 {
		t.Fatalf("the test's own: %q in %q", old, lines[line])
	}
	changed := slices.Clone(lines)
	changed[line] = strings.Replace(lines[line], old, text, 1)
	return changed
}

func TestUnpack(t *testing.T) {
	net := wantUnpacked(t, right...)
	wantLook(t, net, 0, api.State{Count: 5, Files: 2, Records: 3})
	wantLook(t, net, 1, api.State{Count: 2, Files: 1, Records: 1})
	wantLook(t, net, 2, api.State{Count: 4, Files: 0, Records: 2})
	wantList(t, net, 0, "/", "b")
	wantRead(t, net, 0, "b", "\x00\xff")
	wantRead(t, net, 0, "/", "")
	// What 1 knows of / has its changes: it was there, and was removed.
	wantPull(t, net, 1, 0, "b+")
	wantPack(t, net, "reunion 3", "replica 5,2,0", "/ 5,2,0 1:2 0,2,0 =", "a 5,0,0 -", "b 5,1,0 0:3 3,1,0 =00ff",
		"replica 5,2,0", "ab 1,2,4 2:1 1,0,4 =7a", "b 5,2,0 0:3 3,1,0 =00ff",
		"replica 0,0,4", "a 2,0,4 -", "z 1,1,4 -")
}

func TestUnpackAtTheEdges(t *testing.T) {
	long := strings.Repeat("f0", 60)
	for _, lines := range [][]string{
		{"reunion 1", "replica 0"},
		{"reunion 1", "replica 1000000000"},
		{"reunion 1", "replica 1000000000", "a 1000000000 0:1000000000 1000000000 =" + long},
		{"reunion 1", "replica 1", "abcdefghijkl 1 0:1 1 =" + long, "mnopqrstuvwx 1 0:1 1 =", "yz////////// 1 0:1 1 =0a"},
		{"reunion 1", "replica 5", "replica 5 0:1 5 =", "reunion 5 0:2 5 =", "sum 5 0:3 3 =", "sun 5 0:5 5 ="},
		{"reunion 2", "replica 0,0", "replica 0,1 -", "sum 0,2 -", "replica 0,3"},
		{"reunion 2", "replica 0,1000000000", "a 0,0 -", "replica 0,1000000000"},
		{"reunion 6", "replica 0,0,0,0,0,0", "replica 0,0,0,0,0,0", "replica 0,0,0,0,0,0", "replica 0,0,0,0,0,0", "replica 0,0,0,0,0,0", "replica 0,0,0,0,0,0"},
		{"reunion 6", "replica 0,0,0,0,0,7", "z 0,0,0,0,0,7 5:7 0,0,0,0,0,7 =", "replica 0,0,0,0,0,0", "replica 0,0,0,0,0,0", "replica 0,0,0,0,0,0", "replica 0,0,0,0,0,0", "replica 0,0,0,0,0,7"},
	} {
		wantUnpacked(t, lines...)
	}
}

func TestUnpackRefusesWhatCouldNotBe(t *testing.T) {
	for _, c := range []struct {
		line           int
		old, text, why string
	}{
		{0, "3", "0", "no replica"}, {0, "3", "7", "seven replicas"}, {0, "3", "-3", "fewer than none"}, {0, "3", "1000000000", "very many replicas"},
		{0, "3", "2", "a replica too many"}, {0, "3", "4", "a replica too few"},
		{1, "5,2,0", "5,2", "a number too few"}, {1, "5,2,0", "5,2,0,0", "a number too many"}, {1, "5,2,0", "", "no time"},
		{1, "5,2,0", "5,1000000001,0", "a number above the greatest"}, {1, "5,2,0", "5,3,0", "a number above the count in a common time"},
		{1, "5,2,0", "5,2,5", "a number above the count of a later replica"}, {7, "0,0,4", "6,0,4", "a number above the count of an earlier replica"},
		{1, "5,2,0", "4,2,0", "an own number that is not the common one"}, {7, "0,0,4", "0,0,5", "own numbers that lag behind the common one"},
		{2, "5,2,0", "4,2,0", "an own number below the count"}, {2, "5,2,0", "6,2,0", "an own number above the count"},
		{3, "5,0,0", "4,0,0", "an own number below the count, of no file"}, {3, "5,0,0", "5,3,0", "a number above the count, of no file"},
		{2, "5,2,0", "5,3,0", "a number above the count in what is known"}, {6, "1,2,4", "1,2,5", "a number above a later count in what is known"},
		{2, "0,2,0", "0,2,1", "changes that are not known"}, {2, "0,2,0", "6,2,0", "changes above the count"}, {4, "3,1,0", "3,2,0", "changes that others know"},
		{2, "1:2", "1:0", "a birth of 0"}, {2, "1:2", "1:3", "a birth that the changes do not have"}, {2, "1:2", "0:1", "a birth of a replica that the changes do not have"},
		{2, "1:2", "2:1", "a birth of another replica that the changes do not have"},
		{2, "1:2", "3:1", "a birth in no replica"}, {2, "1:2", "6:1", "a birth in a seventh replica"}, {2, "1:2", "1000000000:1", "a birth far off"},
		{2, "1:2", "1:1000000001", "a birth above the greatest number"}, {2, "1:2", "-1:2", "a birth ahead of the first replica"},
		{3, "5,0,0", "5,2,0", "a record that need not be kept"}, {8, "2,0,4", "0,0,4", "a record that need not be kept, in the last one"},
		{3, "a ", "/ ", "a path twice"}, {3, "a ", "c ", "a path that does not rise"}, {4, "b ", "a ", "a path twice, with a file"}, {9, "z ", "a ", "a path twice, of no file"},
		{3, "a ", "A ", "no path"}, {3, "a ", " ", "an empty path"}, {3, "a ", "aaaaaaaaaaaaa ", "a path of 13 bytes"}, {3, "a ", "a.b ", "a path with a dot"}, {3, "a ", "\xe9 ", "a path of other bytes"},
	} {
		wantErrText(t, c.why, sealed(but(t, right, c.line, c.old, c.text)...))
	}
}

func TestUnpackRefusesOtherForms(t *testing.T) {
	for _, c := range []struct {
		line      int
		old, text string
	}{
		{0, "reunion", "Reunion"}, {0, "reunion", "replica"}, {0, "reunion", " reunion"}, {0, "reunion ", ""}, {0, "reunion", ""}, {0, " ", ""}, {0, " ", "  "}, {0, "3", "03"}, {0, "3", "+3"}, {0, "3", "3 "}, {0, "3", "3,0"}, {0, "3", ""},
		{1, "replica", "Replica"}, {1, "replica", "reunion"}, {1, "replica", " replica"}, {1, "replica", ""}, {1, " ", ""}, {1, " ", "  "}, {1, " ", "\t"},
		{1, "5,", "05,"}, {1, ",2", ",02"}, {1, ",0", ",00"}, {1, ",0", ",-0"}, {1, ",2", ", 2"}, {1, ",0", ",0 "}, {1, ",0", ",0,"}, {1, ",0", ","}, {1, ",2", ",,2"}, {1, "2,", "2;"}, {1, ",0", ",0\r"}, {1, ",0", ",0x0"},
		{3, "-", ""}, {3, " -", ""}, {3, "-", "--"}, {3, "-", "- "}, {3, "-", "="}, {3, "-", "- -"}, {3, " -", "  -"}, {3, "a ", "a  "}, {3, "a ", " a "}, {3, " -", "-"}, {3, "5,0,0", ""}, {3, "5,0,0", "05,0,0"}, {3, "5,0,0", "5,0"}, {3, "5,0,0", "5,0,0,0"},
		{4, "0:3", "0:03"}, {4, "0:3", "00:3"}, {4, "0:3", "0"}, {4, "0:3", "3"}, {4, "0:3", "0:"}, {4, "0:3", ":3"}, {4, "0:3", "0;3"}, {4, "0:3", "0:3:3"}, {4, "0:3", "0: 3"}, {4, "0:3", ""}, {4, "0:3", "-"}, {4, "0:3 ", ""},
		{4, "3,1,0", "03,1,0"}, {4, "3,1,0", "3,1"}, {4, "3,1,0", "3,1,0,0"}, {4, "3,1,0", "3,1,"}, {4, "3,1,0 ", ""}, {4, " 3,1,0", "  3,1,0"}, {4, "3,1,0", "3 1 0"},
		{4, "=00ff", "00ff"}, {4, "=00ff", ""}, {4, " =00ff", ""}, {4, "=00ff", "=00fF"}, {4, "=00ff", "=00F0"}, {4, "=00ff", "=00f"}, {4, "=00ff", "=0"}, {4, "=00ff", "=00fg"}, {4, "=00ff", "=g0ff"}, {4, "=00ff", "==00ff"}, {4, "=00ff", "=00ff "}, {4, "=00ff", "=00ff ="}, {4, "=00ff", "= 00ff"}, {4, "=00ff", "=00ff -"}, {4, "=00ff", "-"},
		{4, "=00ff", "=" + strings.Repeat("00", 61)}, {4, "=00ff", "=" + strings.Repeat("0", 119)}, {4, "=00ff", "=" + strings.Repeat("0", 121)},
	} {
		lines := but(t, right, c.line, c.old, c.text)
		wantErrText(t, "another form of line", sealed(lines...))
	}
}

func TestUnpackOfLinesTakenAwayTwiceAndOutOfOrder(t *testing.T) {
	for i, line := range right {
		without := slices.Delete(slices.Clone(right), i, i+1)
		if strings.HasPrefix(line, "re") {
			wantErrText(t, "a line is missing", sealed(without...))
		} else {
			wantUnpacked(t, without...)
		}
		wantErrText(t, "a line twice", sealed(slices.Insert(slices.Clone(right), i, line)...))
		for _, other := range []string{"", " ", "-", "a", "a 5,2,0", "replica", "replica 0,0,0", "reunion 3", "sum 0", sealed(right[:i]...)} {
			wantErrText(t, "a line too many", sealed(slices.Insert(slices.Clone(right), i, other)...))
		}
		if i > 0 {
			swapped := slices.Clone(right)
			swapped[i], swapped[i-1] = swapped[i-1], swapped[i]
			wantErrText(t, "lines out of order", sealed(swapped...))
		}
	}
	wantErrText(t, "a line too many", sealed(append(slices.Clone(right), "")...))
	wantErrText(t, "a replica too many", sealed(append(slices.Clone(right), "replica 0,0,0")...))
	wantErrText(t, "no line", sealed())
	wantErrText(t, "no replica", sealed("reunion 1"))
	wantErrText(t, "no first line", sealed("replica 0"))
}

func TestUnpackOfWrongEndings(t *testing.T) {
	text := sealed(right...)
	body, last, _ := strings.Cut(text, "sum ")
	number := strings.TrimSuffix(last, "\n")
	for _, other := range []string{
		"", "\n", "sum\n", "sum \n", "sum " + number, "sum 0\n", "sum 0" + number + "\n", "sum +" + number + "\n", "sum  " + number + "\n", "sum " + number + " \n",
		" sum " + number + "\n", "Sum " + number + "\n", "sum" + number + "\n", "sum " + number + "\n\n", "sum " + number + "\n ", "\nsum " + number + "\n",
		"sum " + number + "\r\n", "sum " + number + "\nsum " + number + "\n", "sum 1" + number + "\n", "sum " + strings.Repeat("9", 1<<16) + "\n", number + "\n",
	} {
		wantErrText(t, "another ending", body+other)
	}
	sum := plainSum(body)
	for _, wrong := range []uint64{sum + 1, sum - 1, sum + 1000003, sum + 10, 0, 1000003, 1<<32 + sum, 1<<64 - 1} {
		wantErrText(t, "a wrong sum", fmt.Sprintf("%ssum %d\n", body, wrong))
	}
	for i := range len(text) {
		wantErrText(t, "the beginning alone", text[:i])
		wantErrText(t, "the end alone", text[i+1:])
	}
	wantErrText(t, "two texts", text+text)
	wantErrText(t, "a byte ahead", " "+text)
	wantErrText(t, "a mark ahead", "\ufeff"+text)
	for b := range 256 {
		wantErrText(t, "a byte behind", text+string([]byte{byte(b)}))
	}
}

// Two bytes that change places keep a plain sum, but not this one.
func TestUnpackOfWrongSums(t *testing.T) {
	text := sealed(right...)
	for i := range len(text) {
		for bit := range 8 {
			changed := []byte(text)
			changed[i] ^= 1 << bit
			wantErrText(t, "a byte is changed", string(changed))
		}
		if i > 0 && text[i] != text[i-1] {
			changed := []byte(text)
			changed[i], changed[i-1] = changed[i-1], changed[i]
			wantErrText(t, "bytes changed places", string(changed))
		}
	}
}

// manyFiles is a replica's lines, with n files.
func manyFiles(n int) []string {
	lines := []string{"replica 1"}
	for i := range n {
		lines = append(lines, fmt.Sprintf("f%c 1 0:1 1 =", 'a'+i))
	}
	return lines
}

func TestUnpackOfTwentyFilesAndMore(t *testing.T) {
	net := wantUnpacked(t, append([]string{"reunion 1"}, manyFiles(20)...)...)
	wantLook(t, net, 0, api.State{Count: 1, Files: 20, Records: 20})
	if e := net.Write(0, "g", ""); e != api.ErrFull {
		t.Errorf("P3: Write of a file above twenty = %d", e)
	}
	for _, n := range []int{21, 22, 26} {
		wantErrText(t, "files too many", sealed(append([]string{"reunion 1"}, manyFiles(n)...)...))
	}
}

func TestUnpackOfManyRecords(t *testing.T) {
	lines := []string{"reunion 2", "replica 0,1"}
	for i := range 26 * 26 * 26 {
		what := "-"
		if i%1000 == 0 {
			what = "1:1 0,1 ="
		}
		lines = append(lines, fmt.Sprintf("%c%c%c 0,2 %s", 'a'+i/676, 'a'+i/26%26, 'a'+i%26, what))
	}
	net := wantUnpacked(t, append(lines, "replica 0,2")...)
	wantLook(t, net, 0, api.State{Count: 0, Files: 18, Records: 26 * 26 * 26})
}

func TestTheLastCount(t *testing.T) {
	net := wantUnpacked(t, "reunion 2", "replica 1000000000,0", "a 1000000000,0 0:1 1,0 =", "b 1000000000,0 0:2 2,0 =",
		"replica 0,1", "a 0,1 1:1 0,1 =78")
	before := net.Pack()
	for _, c := range []struct {
		call string
		e    api.Errno
		want api.Errno
	}{
		{"Write of a file that is there", net.Write(0, "a", "y"), api.ErrFull},
		{"Write of another", net.Write(0, "c", ""), api.ErrFull},
		{"Write of a text too long", net.Write(0, "c", longText), api.ErrLong},
		{"Remove", net.Remove(0, "a"), api.ErrFull},
		{"Remove of none", net.Remove(0, "c"), api.ErrNone},
		{"Resolve to theirs", net.Resolve(0, 1, "a", true), api.ErrFull},
		{"Resolve to its own", net.Resolve(0, 1, "a", false), api.ErrFull},
		{"Resolve of no conflict", net.Resolve(0, 1, "b", true), api.ErrNone},
	} {
		if c.e != c.want {
			t.Errorf("P3, P6: %s at the last count = %d, want %d", c.call, c.e, c.want)
		}
	}
	if net.Pack() != before {
		t.Errorf("P1: refused, but changed: %q, %q", before, net.Pack())
	}
	wantRead(t, net, 0, "a", "")
	wantPullPath(t, net, 0, 1, "a", api.Conflict)
	wantPull(t, net, 1, 0, "a! b+")
	mustResolve(t, net, 1, 0, "a", false)
	wantPull(t, net, 0, 1, "a+")
	wantRead(t, net, 0, "a", "x")
	again(t, net)
}

func TestTheLastCountIsReached(t *testing.T) {
	lastButOne := []string{"reunion 2", "replica 999999999,0", "a 999999999,0 0:1 1,0 =", "replica 0,1", "a 0,1 1:1 0,1 =78"}
	for what, c := range map[string]struct {
		call func(*reunion.Net) api.Errno
		want []string
	}{
		"Write": {
			func(net *reunion.Net) api.Errno { return net.Write(0, "a", "y") },
			[]string{"replica 1000000000,0", "a 1000000000,0 0:1 1000000000,0 =79"},
		},
		"Resolve": {
			func(net *reunion.Net) api.Errno { return net.Resolve(0, 1, "a", true) },
			[]string{"replica 1000000000,0", "a 1000000000,1 0:1000000000 1000000000,1 =78"},
		},
		"Remove": {
			func(net *reunion.Net) api.Errno { return net.Remove(0, "a") },
			[]string{"replica 1000000000,0"},
		},
	} {
		net := wantUnpacked(t, lastButOne...)
		if e := c.call(net); e != api.OK {
			t.Errorf("P3, P6: %s, the last thing that can be done = %d", what, e)
		}
		wantPack(t, net, slices.Concat(lastButOne[:1], c.want, lastButOne[3:])...)
		if e := net.Write(0, "a", ""); e != api.ErrFull {
			t.Errorf("P3: Write behind the last thing that can be done = %d", e)
		}
	}
}

func TestUnpackOfVeryLongTexts(t *testing.T) {
	const many = 1 << 22
	for what, text := range map[string]string{
		"newlines": strings.Repeat("\n", many), "noughts": strings.Repeat("0", many), "spaces": strings.Repeat(" ", many), "other bytes": strings.Repeat("\xff", many),
		"sums": strings.Repeat("sum 0\n", many/8), "sealed newlines": sealed(strings.Repeat("\n", many)), "sealed spaces": sealed(strings.Repeat(" ", many)),
		"first lines":     sealed(strings.Repeat("reunion 1\n", many/8)),
		"replicas":        sealed("reunion 1", strings.Repeat("replica 0\n", many/8)),
		"digits at first": sealed("reunion "+strings.Repeat("1", many), "replica 0"),
		"a long number":   sealed("reunion 1", "replica "+strings.Repeat("9", many)),
		"noughts ahead":   sealed("reunion 1", "replica "+strings.Repeat("0", many)),
		"a long time":     sealed("reunion 1", "replica "+strings.Repeat("0,", many)+"0"),
		"a long path":     sealed("reunion 1", "replica 1", strings.Repeat("a", many)+" 1 0:1 1 ="),
		"a long text":     sealed("reunion 1", "replica 1", "a 1 0:1 1 ="+strings.Repeat("00", many)),
		"a long birth":    sealed("reunion 1", "replica 1", "a 1 0:"+strings.Repeat("1", many)+" 1 ="),
		"a far replica":   sealed("reunion 1", "replica 1", "a 1 "+strings.Repeat("1", many)+":1 1 ="),
		"many fields":     sealed("reunion 1", "replica 1", "a 1 0:1 1 ="+strings.Repeat(" =", many)),
	} {
		wantErrText(t, what, text)
	}
}

// The numbers are such as would be right if they wrapped round.
func TestUnpackOfNumbersThatWrapRound(t *testing.T) {
	for _, round := range []string{"256", "65536", "4294967296", "18446744073709551616", "340282366920938463463374607431768211456"} {
		wantErrText(t, "no replica but for a wrap", sealed("reunion "+round+"1", "replica 0"))
		wantErrText(t, "a count above the greatest", sealed("reunion 1", "replica 1"+round+"000000000"))
	}
	for _, number := range []string{"1000000001", "2147483648", "4294967297", "9223372036854775808", "18446744073709551617"} {
		wantErrText(t, "a number above the greatest", sealed("reunion 1", "replica "+number))
		wantErrText(t, "a number above the greatest", sealed("reunion 1", "replica 1", "a "+number+" 0:1 1 ="))
		wantErrText(t, "a number above the greatest", sealed("reunion 1", "replica 1", "a 1 0:"+number+" 1 ="))
		wantErrText(t, "a number above the greatest", sealed("reunion 1", "replica 1", "a 1 "+number+":1 1 ="))
		wantErrText(t, "a number above the greatest", sealed("reunion 1", "replica 1", "a 1 0:1 "+number+" ="))
	}
	wantErrText(t, "a count above the greatest", sealed("reunion 1", "replica 1000000001", "a 1000000001 0:1 1 ="))
}

var (
	wholeForm = regexp.MustCompile(`^((?:[^\n]+\n)*)sum (0|[1-9][0-9]*)\n$`)
	firstForm = regexp.MustCompile(`^reunion ([1-6])$`)
	placeForm = regexp.MustCompile(`^replica ([0-9,]+)$`)
	lineForm  = regexp.MustCompile(`^([a-z/]{1,12}) ([0-9,]+) (?:-|([0-9]):([0-9]+) ([0-9,]+) =(?:[0-9a-f]{2}){0,60})$`)
	timeForm  = regexp.MustCompile(`^(0|[1-9][0-9]{0,9})(,(0|[1-9][0-9]{0,9}))*$`)
)

// numbersOf is a time of n numbers, or nil.
func numbersOf(text string, n int) []int {
	if !timeForm.MatchString(text) || strings.Count(text, ",") != n-1 {
		return nil
	}
	var numbers []int
	for part := range strings.SplitSeq(text, ",") {
		number, _ := strconv.Atoi(part)
		if number > 1000000000 {
			return nil
		}
		numbers = append(numbers, number)
	}
	return numbers
}

// above says whether a number of one is above the other's.
func above(one, other []int) bool {
	for i := range one {
		if one[i] > other[i] {
			return true
		}
	}
	return false
}

// isText is P8's bracket told another way: whether a text is of a net.
func isText(text string) bool {
	whole := wholeForm.FindStringSubmatch(text)
	if whole == nil || whole[2] != fmt.Sprint(plainSum(whole[1])) {
		return false
	}
	lines := strings.Split(strings.TrimSuffix(whole[1], "\n"), "\n")
	first := firstForm.FindStringSubmatch(lines[0])
	if first == nil {
		return false
	}
	n := int(first[1][0] - '0')
	var commons, all [][]int
	var files [6]int
	last := ""
	for _, line := range lines[1:] {
		self := len(commons) - 1
		if place := placeForm.FindStringSubmatch(line); place != nil {
			commons = append(commons, numbersOf(place[1], n))
			all = append(all, commons[self+1])
			last = ""
			if len(commons) > n || commons[self+1] == nil {
				return false
			}
			continue
		}
		record := lineForm.FindStringSubmatch(line)
		if record == nil || self < 0 || record[1] <= last {
			return false
		}
		last = record[1]
		known := numbersOf(record[2], n)
		if known == nil || known[self] != commons[self][self] {
			return false
		}
		all = append(all, known)
		if record[3] == "" {
			if slices.Equal(known, commons[self]) {
				return false
			}
			continue
		}
		files[self]++
		changes := numbersOf(record[5], n)
		birth := numbersOf(record[3]+","+record[4], 2)
		if birth == nil || changes == nil || birth[0] >= n || birth[1] < 1 || birth[1] > changes[birth[0]] || above(changes, known) {
			return false
		}
		all = append(all, changes)
	}
	if len(commons) != n || slices.Max(files[:]) > 20 {
		return false
	}
	var counts []int
	for r, common := range commons {
		counts = append(counts, common[r])
	}
	return !slices.ContainsFunc(all, func(numbers []int) bool { return above(numbers, counts) })
}

// wantAsIsText tells whether the text was taken.
func wantAsIsText(t *testing.T, text string) bool {
	t.Helper()
	net, e := reunion.Unpack(text)
	switch isNet := isText(text); {
	case isNet && (net == nil || e != api.OK || net.Pack() != text):
		t.Fatalf("P8: Unpack(%q) = %v, %d", text, net, e)
	case !isNet && (net != nil || e != api.ErrText):
		t.Fatalf("P8: Unpack(%q) = %v, %d, want ErrText", text, net, e)
	}
	return net != nil
}

// withOneByte is every text that differs from this one by one byte: taken
// away, put in, or another one.
func withOneByte(text string) []string {
	var texts []string
	for i := range len(text) + 1 {
		for b := range 256 {
			texts = append(texts, text[:i]+string([]byte{byte(b)})+text[i:])
		}
	}
	for i := range len(text) {
		texts = append(texts, text[:i]+text[i+1:])
		for b := range 256 {
			texts = append(texts, text[:i]+string([]byte{byte(b)})+text[i+1:])
		}
	}
	return texts
}

func TestUnpackOfEveryByteInEveryPlace(t *testing.T) {
	// Of the second one the counts are 0: a time of noughts would be taken.
	taken := 0
	for _, lines := range [][]string{right, {"reunion 2", "replica 0,1", "a 0,0 -", "b 0,1 1:1 0,1 =", "replica 0,1"}} {
		for _, body := range withOneByte(strings.Join(lines, "\n")) {
			if wantAsIsText(t, sealed(body)) {
				taken++
			}
		}
	}
	if taken < 500 {
		t.Errorf("P8: %d texts taken: too few to tell", taken)
	}
}

// someTime is n small numbers, mostly within the counts.
func someTime(random *rand.Rand, counts []int) []int {
	numbers := slices.Clone(counts)
	for i := range numbers {
		switch random.Intn(60) {
		case 0:
			numbers[i]++
		default:
			numbers[i] -= random.Intn(min(2, numbers[i]+1))
		}
	}
	return numbers
}

func tellTime(numbers []int) string {
	return strings.Trim(strings.ReplaceAll(fmt.Sprint(numbers), " ", ","), "[]")
}

// someText is a text that may be of a net, or nearly.
func someText(random *rand.Rand) string {
	n := 1 + random.Intn(4)
	counts := make([]int, n)
	for i := range counts {
		counts[i] = random.Intn(4)
	}
	lines := []string{fmt.Sprint("reunion ", n)}
	for r := range n {
		own := func() []int {
			numbers := someTime(random, counts)
			if random.Intn(60) > 0 {
				numbers[r] = counts[r]
			}
			return numbers
		}
		lines = append(lines, "replica "+tellTime(own()))
		for range random.Intn(4) {
			path := string(rune('a' + len(lines)%20))
			if random.Intn(30) == 0 {
				path = "a"
			}
			known := own()
			if random.Intn(2) == 0 {
				lines = append(lines, path+" "+tellTime(known)+" -")
				continue
			}
			changes := someTime(random, known)
			birth := random.Intn(n)
			lines = append(lines, fmt.Sprintf("%s %s %d:%d %s =", path, tellTime(known), birth, changes[birth], tellTime(changes)))
		}
	}
	return sealed(lines...)
}

func TestUnpackOfManyTexts(t *testing.T) {
	random := rand.New(rand.NewSource(10))
	taken := 0
	const all = 20000
	for range all {
		if wantAsIsText(t, someText(random)) {
			taken++
		}
	}
	if taken < all/10 || taken > all*9/10 {
		t.Errorf("P8: of %d texts, %d taken: too few to tell", all, taken)
	}
}

// act does the same thing with every net, and tells the answers.
func act(random *rand.Rand, n int, nets ...*reunion.Net) []string {
	to, from, path := random.Intn(n), random.Intn(n), string(rune('a'+random.Intn(20)))
	what, theirs := random.Intn(6), random.Intn(2) == 0
	var answers []string
	for _, net := range nets {
		var answer []any
		switch what {
		case 0:
			answer = []any{net.Write(to, path, "x")}
		case 1:
			answer = []any{net.Remove(to, path)}
		case 2:
			did, e := net.PullPath(to, from, path)
			answer = []any{did, e}
		case 3:
			answer = []any{net.Resolve(to, from, path, theirs)}
		case 4:
			changes, e := net.Round([]api.Pair{{To: to, From: from}})
			answer = []any{changes, e}
		default:
			changes, e := net.Pull(to, from)
			answer = []any{changes, e}
		}
		answers = append(answers, fmt.Sprint(answer...))
	}
	return answers
}

// Whatever net was unpacked: what comes of it can be packed and unpacked, too.
func TestUnpackedNetsGoOn(t *testing.T) {
	random := rand.New(rand.NewSource(11))
	nets := 0
	for range 3000 {
		text := someText(random)
		net, e := reunion.Unpack(text)
		if e != api.OK {
			continue
		}
		nets++
		n := int(text[len("reunion ")] - '0')
		for range 40 {
			other := again(t, net)
			answers := act(random, n, net, other)
			if answers[0] != answers[1] || net.Pack() != other.Pack() || !isText(net.Pack()) {
				t.Fatalf("P8: %q, then %q and %q: %q, %q", text, answers[0], answers[1], net.Pack(), other.Pack())
			}
		}
	}
	if nets < 300 {
		t.Errorf("P8: %d nets: too few to tell", nets)
	}
}

func FuzzUnpack(f *testing.F) {
	f.Add(strings.Join(right, "\n"))
	f.Add("reunion 1\nreplica 1000000000")
	f.Fuzz(func(t *testing.T, body string) {
		wantAsIsText(t, body)
		wantAsIsText(t, sealed(body))
	})
}
