package told

import (
	"math/big"
	"strings"
	"testing"
)

func TestReadNumber(t *testing.T) {
	for text, want := range map[string]int{
		"0": 0, "1": 1, "9": 9, "10": 10, "305": 305, "999999999": 999999999, "1000000000": 1000000000,
	} {
		if n, ok := ReadNumber(text); n != want || !ok {
			t.Errorf("P8: ReadNumber(%q) = %d, %t", text, n, ok)
		}
	}
}

func TestReadNumberRefuses(t *testing.T) {
	for _, text := range []string{
		"", " ", "-", "+", "-1", "-0", "+1", "00", "01", "0000000001", "1 ", " 1", "1\n", "1_0", "1.0", "1e3", "0x1", "a", "١",
		"1000000001", "1000000010", "4294967297", "9223372036854775807", "9223372036854775808",
		"18446744073709551617", "18446744073709551616000000001",
		strings.Repeat("1", 1<<20), strings.Repeat("0", 1<<20), "1" + strings.Repeat("0", 1<<20),
	} {
		if n, ok := ReadNumber(text); n != 0 || ok {
			t.Errorf("P8: ReadNumber(%.40q) = %d, %t", text, n, ok)
		}
	}
}

func TestHex(t *testing.T) {
	for text, want := range map[string]string{
		"": "=", "x": "=78", "\x00\xff": "=00ff", "\x0f\xf0\n": "=0ff00a", "é": "=c3a9",
		strings.Repeat("z", 60): "=" + strings.Repeat("7a", 60),
	} {
		if hex := Hex(text); hex != want {
			t.Errorf("P8: Hex(%q) = %q, want %q", text, hex, want)
		}
		if got, ok := ReadHex(want); got != text || !ok {
			t.Errorf("P8: ReadHex(%q) = %q, %t, want %q", want, got, ok, text)
		}
	}
}

func TestHexOfEveryByte(t *testing.T) {
	for b := range 256 {
		text := string([]byte{byte(b)})
		if got, ok := ReadHex(Hex(text)); got != text || !ok || len(Hex(text)) != 3 {
			t.Errorf("P8: ReadHex(%q) = %q, %t, want %q", Hex(text), got, ok, text)
		}
	}
}

func TestReadHexRefuses(t *testing.T) {
	for _, hex := range []string{
		"", "00", "-", "==", "=0", "=000", "=0g", "=g0", "=0G", "=FF", "=fF", "=Ff", "=0 ", "= 00", "=00 ", "=00\n",
		"=0x", "=/0", "=:0", "=`0", "=@0", "=-1", "=+1", "=é", "==00", "x00",
		"=" + strings.Repeat("00", 61), "=" + strings.Repeat("0", 119), "=" + strings.Repeat("0", 121), "=" + strings.Repeat("00", 1<<20),
	} {
		if text, ok := ReadHex(hex); text != "" || ok {
			t.Errorf("P8: ReadHex(%.40q) = %q, %t", hex, text, ok)
		}
	}
}

func TestSeal(t *testing.T) {
	for body, want := range map[string]string{
		"reunion 2\nreplica 0,0\nreplica 0,0\n": "sum 42566\n",
		"":                                      "sum 0\n",
		"\n":                                    "sum 10\n",
		"ab\n":                                  "sum 323\n",
	} {
		if text := Seal(body); text != body+want {
			t.Errorf("P8: Seal(%q) = %q, want %q behind it", body, text, want)
		}
		if got, ok := Unseal(body + want); got != body || !ok {
			t.Errorf("P8: Unseal(%q) = %q, %t", body+want, got, ok)
		}
	}
}

// plainSum is the sum without a bound, taken modulo once.
func plainSum(body string) int {
	total := new(big.Int)
	for i := range len(body) {
		total.Add(total, big.NewInt(int64(i+1)*int64(body[i])))
	}
	return int(total.Mod(total, big.NewInt(1000003)).Int64())
}

func TestSumsOfLongTexts(t *testing.T) {
	for _, n := range []int{87, 88, 1000, 1000001, 1000002, 1000003, 1000004, 2500000} {
		for _, b := range []string{"\xff", "\n", "q"} {
			body := strings.Repeat(b, n)
			if got, want := sum(body), plainSum(body); got != want {
				t.Errorf("P8: the sum of %d times %q is %d, want %d", n, b, got, want)
			}
		}
	}
}

func TestUnsealRefuses(t *testing.T) {
	for _, text := range []string{
		"", "\n", "\n\n", "sum", "sum ", "sum \n", "sum 1\n", "sum 0", "sum 00\n", "sum 0 \n", " sum 0\n", "sum  0\n", "Sum 0\n",
		"sum 0\n\n", "sum 0\nsum 0\n", "\nsum 0\n", "\nsum 10", "\nsum 010\n", "\nsum +10\n", "\nsum 11\n", "\nsum 9\n",
		"\nsum 1000013\n", "\nsum -999993\n", "\nsum 10\r\n", "\nsum 10\n\n", "\nsum 10\n ", "a\nsum 10\n", "sum 10\n\n", "x",
	} {
		if body, ok := Unseal(text); body != "" || ok {
			t.Errorf("P8: Unseal(%q) = %q, %t", text, body, ok)
		}
	}
}
