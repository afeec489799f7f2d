package letterset

import (
	"strings"

	"evergreen/api"
)

const hexDigits = "0123456789abcdef"

// Parse returns the set that the inside of a bracket class denotes.
func Parse(text string) (api.Letters, error) {
	var s api.Letters
	for text != "" {
		low, high, rest, ok := item(text)
		if !ok {
			return api.Letters{}, api.ErrForm
		}
		s = Union(s, Between(low, high))
		text = rest
	}
	return s, nil
}

// item reads the first item of the text: an element, or a range.
func item(text string) (low, high byte, rest string, ok bool) {
	low, rest, ok = element(text)
	if !ok || !strings.HasPrefix(rest, "-") {
		return low, low, rest, ok
	}
	high, rest, ok = element(rest[1:])
	return low, high, rest, ok && low <= high
}

// element reads the first element of the text, and returns the letter that it denotes.
func element(text string) (letter byte, rest string, ok bool) {
	if text == "" {
		return 0, "", false
	}
	switch text[0] {
	case '\\':
		return escape(text[1:])
	case ']', '-':
		return 0, "", false
	}
	return text[0], text[1:], true
}

// escape reads what follows the backslash of an element.
func escape(text string) (letter byte, rest string, ok bool) {
	if text == "" {
		return 0, "", false
	}
	switch text[0] {
	case 'n':
		return '\n', text[1:], true
	case 't':
		return '\t', text[1:], true
	case 'r':
		return '\r', text[1:], true
	case 'x':
		return hexadecimal(text[1:])
	}
	return text[0], text[1:], punctuation(text[0])
}

// hexadecimal reads the two digits of an element.
func hexadecimal(text string) (letter byte, rest string, ok bool) {
	if len(text) < 2 {
		return 0, "", false
	}
	high, ok := digit(text[0])
	if !ok {
		return 0, "", false
	}
	low, ok := digit(text[1])
	if !ok {
		return 0, "", false
	}
	return high<<4 | low, text[2:], true
}

// digit returns the value of a hexadecimal digit.
func digit(b byte) (value byte, ok bool) {
	switch {
	case b >= '0' && b <= '9':
		return b - '0', true
	case b >= 'a' && b <= 'f':
		return b - 'a' + 10, true
	case b >= 'A' && b <= 'F':
		return b - 'A' + 10, true
	}
	return 0, false
}

// punctuation reports whether b is an ASCII punctuation character.
func punctuation(b byte) bool {
	return b >= '!' && b <= '/' || b >= ':' && b <= '@' || b >= '[' && b <= '`' || b >= '{' && b <= '~'
}

// Format returns the canonical text of the set.
func Format(s api.Letters) string {
	var text strings.Builder
	for low := 0; low < 256; low++ {
		if !Has(s, byte(low)) {
			continue
		}
		high := low
		for high < 255 && Has(s, byte(high+1)) {
			high++
		}
		writeRun(&text, low, high)
		low = high
	}
	return text.String()
}

// writeRun writes the letters low .. high, as a range if there are more than two.
func writeRun(text *strings.Builder, low, high int) {
	writeLetter(text, byte(low))
	if high > low+1 {
		text.WriteByte('-')
	}
	if high > low {
		writeLetter(text, byte(high))
	}
}

// writeLetter writes the canonical element of a letter.
func writeLetter(text *strings.Builder, b byte) {
	switch {
	case b == '\n':
		text.WriteString("\\n")
	case b == '\t':
		text.WriteString("\\t")
	case b == '\r':
		text.WriteString("\\r")
	case b < 32 || b > 126:
		text.WriteString("\\x")
		text.WriteByte(hexDigits[b>>4])
		text.WriteByte(hexDigits[b&15])
	case b == '\\' || b == ']' || b == '-' || b == '^' || b == '[':
		text.WriteByte('\\')
		text.WriteByte(b)
	default:
		text.WriteByte(b)
	}
}
