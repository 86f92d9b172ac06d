// Package told: numbers, the texts of files, and the sum, as a packed net
// tells them. Each is read strictly: no other text is read than what would be
// told.
package told

import (
	"strconv"
	"strings"

	"reunion/api"
)

const digits = "0123456789abcdef"

// modulus bounds the sum.
const modulus = 1000003

// ReadNumber reads a number, 0 to api.MaxCount.
func ReadNumber(text string) (int, bool) {
	n, err := strconv.Atoi(text)
	// Atoi takes a plus and noughts ahead as well, which are never told.
	if err != nil || n < 0 || n > api.MaxCount || strconv.Itoa(n) != text {
		return 0, false
	}
	return n, true
}

// Hex tells the text of a file.
func Hex(text string) string {
	hex := []byte("=")
	for i := range len(text) {
		hex = append(hex, digits[text[i]/16], digits[text[i]%16])
	}
	return string(hex)
}

// ReadHex reads the text of a file, which is at most api.MaxText bytes.
func ReadHex(hex string) (string, bool) {
	pairs, isMarked := strings.CutPrefix(hex, "=")
	if !isMarked || len(pairs)%2 != 0 || len(pairs) > 2*api.MaxText {
		return "", false
	}
	text := make([]byte, 0, api.MaxText)
	for i := 0; i < len(pairs); i += 2 {
		high, low := strings.IndexByte(digits, pairs[i]), strings.IndexByte(digits, pairs[i+1])
		if high < 0 || low < 0 {
			return "", false
		}
		text = append(text, byte(16*high+low))
	}
	return string(text), true
}

// Seal puts the last line behind all others.
func Seal(body string) string { return body + sumLine(body) }

// Unseal takes the last line away, unless it is not what Seal would put there.
func Unseal(text string) (string, bool) {
	end := strings.LastIndexByte(strings.TrimSuffix(text, "\n"), '\n') + 1
	if text[end:] != sumLine(text[:end]) {
		return "", false
	}
	return text[:end], true
}

func sumLine(body string) string { return "sum " + strconv.Itoa(sum(body)) + "\n" }

// sum takes the places modulo too: at a long text the products would be above
// what an int holds.
func sum(body string) int {
	total := 0
	for i := range len(body) {
		place := (i + 1) % modulus
		total = (total + place*int(body[i])) % modulus
	}
	return total
}
