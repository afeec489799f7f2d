package letterset

import (
	"fmt"
	"math/rand"
	"regexp"
	"strconv"
	"strings"
	"testing"

	"evergreen/api"
)

// anElement matches an element, in texts whose characters 0 to 255 stand for the letters.
const anElement = `(?:[^\\\]-]|\\[ntr]|\\x[0-9a-fA-F]{2}|\\[!-/:-@\[-\x60{-~])`

var (
	anInside = regexp.MustCompile(`(?s)^(?:` + anElement + `(?:-` + anElement + `)?)*$`)
	anItem   = regexp.MustCompile(`(?s)(` + anElement + `)(?:-(` + anElement + `))?`)
)

// characters turns each letter of the text into the character with its number.
func characters(text string) string {
	var wide []rune
	for _, b := range []byte(text) {
		wide = append(wide, rune(b))
	}
	return string(wide)
}

// denoted returns the letter that an element denotes.
func denoted(element string) int {
	r := []rune(element)
	if len(r) == 4 {
		n, err := strconv.ParseUint(element[2:], 16, 8)
		if err != nil {
			panic(err)
		}
		return int(n)
	}
	if len(r) == 2 {
		if i := strings.IndexRune("ntr", r[1]); i >= 0 {
			return []int{10, 9, 13}[i]
		}
		return int(r[1])
	}
	return int(r[0])
}

// wantParse is the document's notation, read with regular expressions.
func wantParse(text string) (api.Letters, error) {
	wide := characters(text)
	if !anInside.MatchString(wide) {
		return api.Letters{}, api.ErrForm
	}
	var in model
	for _, m := range anItem.FindAllStringSubmatch(wide, -1) {
		low := denoted(m[1])
		high := low
		if m[2] != "" {
			high = denoted(m[2])
		}
		if high < low {
			return api.Letters{}, api.ErrForm
		}
		for b := low; b <= high; b++ {
			in[b] = true
		}
	}
	return collect(func(b int) bool { return in[b] }), nil
}

func checkParse(t *testing.T, text string) {
	t.Helper()
	got, err := Parse(text)
	want, wanted := wantParse(text)
	if got != want || err != wanted {
		t.Fatalf("Parse(%q): %v, %v; want %v, %v", text, got, err, want, wanted)
	}
	if err != nil {
		return
	}
	// Every notation of a set leads to the one canonical notation of it.
	if again, err := Parse(Format(got)); again != got || err != nil {
		t.Fatalf("Parse(Format) of %q: %v, %v", text, again, err)
	}
}

func TestP2_1ParseOfShortStrings(t *testing.T) {
	const alphabet = `a-\]x4nFg^.`
	list := []string{""}
	for range 5 {
		var longer []string
		for _, head := range list {
			checkParse(t, head)
			for i := range len(alphabet) {
				longer = append(longer, head+alphabet[i:i+1])
			}
		}
		list = longer
	}
	for _, text := range list {
		checkParse(t, text)
	}
}

func TestP2_1ParseOfAllLetters(t *testing.T) {
	for a := range 256 {
		one := string([]byte{byte(a)})
		for _, text := range []string{one, `\` + one, `\x4` + one, `\x` + one + `4`, one + "-z", `\x00-` + one, `a-\` + one} {
			checkParse(t, text)
		}
		for b := range 256 {
			checkParse(t, one+string([]byte{byte(b)}))
			checkParse(t, one+"-"+string([]byte{byte(b)}))
			checkParse(t, `\`+one+`-\`+string([]byte{byte(b)}))
		}
	}
}

func TestP2_1ParseOfRandomStrings(t *testing.T) {
	random := rand.New(rand.NewSource(3))
	parts := []string{"a", "z", "A", "-", "-", `\n`, `\t`, `\r`, `\x`, "00", "7F", "fe", `\`, "]", "[", "^", `\]`, `\-`, `\\`, "\n", "\x00", "\xff", "é", "9", " "}
	for range 50000 {
		var text strings.Builder
		for range random.Intn(12) {
			text.WriteString(parts[random.Intn(len(parts))])
		}
		checkParse(t, text.String())
	}
}

func TestP2_1ParseExamples(t *testing.T) {
	for text, want := range map[string]api.Letters{
		"":                Of(),
		"a-c":             Of('a', 'b', 'c'),
		"a-a":             Of('a'),
		"a-cb-d":          Of('a', 'b', 'c', 'd'),
		"a-ac":            Of('a', 'c'),
		"aaa":             Of('a'),
		"^a":              Of('^', 'a'),
		"[":               Of('['),
		`\n\t\r`:          Of(10, 9, 13),
		"\n\t\r":          Of(10, 9, 13),
		`\x00-\xfF`:       Between(0, 255),
		`\x41\x4a\x4A`:    Of('A', 'J'),
		`\x411`:           Of('A', '1'),
		`\t-\r`:           Between(9, 13),
		`\]\-\\\^\[`:      Of(']', '-', '\\', '^', '['),
		`\--\/`:           Between('-', '/'),
		`+-\-`:            Between('+', '-'),
		"\x80-\xff":       Between(128, 255),
		"é":               Of(0xc3, 0xa9),
		"\x7f \x00":       Of(127, 32, 0),
		`\x5c\x5d\x2d`:    Of('\\', ']', '-'),
		`\~\!\/\:\@\{`:    Of('~', '!', '/', ':', '@', '{'),
		"\x60\\\x60\\\"'": Of(96, '"', '\''),
	} {
		if got, err := Parse(text); got != want || err != nil {
			t.Errorf("Parse(%q): %v, %v; want %v", text, got, err, want)
		}
	}
}

func TestP2_1ParseOfMalformed(t *testing.T) {
	for _, text := range []string{
		"a-", "-", "-a", "--", "a--", "a-b-c", "b-a", "]", "a]", "a-]", `\`, `a\`, `a-\`, `\q`, `\a`, `\N`, `\X41`, `\0`, `\ `,
		`\x`, `\x4`, `\x4g`, `\xg4`, `\x-4`, `\x 4`, "\\\n", "\\\x7f", "\\\xe9", `\x42-\x41`, `\n-\t`, "abc-", "\xff-\xfe", `a-\x4`,
	} {
		if got, err := Parse(text); got != (api.Letters{}) || err != api.ErrForm {
			t.Errorf("Parse(%q): %v, %v", text, got, err)
		}
	}
}

// wantLetter is the canonical notation of a letter.
func wantLetter(b int) string {
	switch {
	case b == 10:
		return `\n`
	case b == 9:
		return `\t`
	case b == 13:
		return `\r`
	case b < 32 || b > 126:
		return fmt.Sprintf(`\x%02x`, b)
	case strings.ContainsRune(`\]-^[`, rune(b)):
		return `\` + string(rune(b))
	}
	return string(rune(b))
}

// wantFormat is the canonical notation of a set.
func wantFormat(s api.Letters) string {
	in := expand(s)
	text := ""
	for b := 0; b < 256; {
		end := b
		for end < 256 && in[end] {
			end++
		}
		switch end - b {
		case 0:
			b++
			continue
		case 1:
			text += wantLetter(b)
		case 2:
			text += wantLetter(b) + wantLetter(b+1)
		default:
			text += wantLetter(b) + "-" + wantLetter(end-1)
		}
		b = end
	}
	return text
}

func TestP2_1Format(t *testing.T) {
	for _, s := range samples() {
		if got, want := Format(s), wantFormat(s); got != want {
			t.Errorf("Format(%v): %q; want %q", s, got, want)
		}
	}
	for low := range 256 {
		for high := low; high < 256; high++ {
			s := Between(byte(low), byte(high))
			if got, want := Format(s), wantFormat(s); got != want {
				t.Fatalf("Format of %d to %d: %q; want %q", low, high, got, want)
			}
		}
	}
}

func TestP2_1FormatExamples(t *testing.T) {
	for want, s := range map[string]api.Letters{
		"":          Of(),
		`\-a-cx`:    Of('a', 'b', 'c', 'x', '-'),
		"ab":        Of('b', 'a'),
		"a-c":       Of('a', 'b', 'c'),
		"ac":        Of('a', 'c'),
		"a-ce-g":    Of('a', 'b', 'c', 'e', 'f', 'g'),
		`\t\n\r`:    Of(10, 9, 13),
		`\t-\r`:     Between(9, 13),
		`\x00-\xff`: Between(0, 255),
		`\xfe\xff`:  Of(254, 255),
		" ~":        Of(' ', '~'),
		`~\x7f`:     Of('~', 127),
		`\x1f `:     Of(31, 32),
		"!-#":       Of('!', '"', '#'),
		`\[-\^`:     Between('[', '^'),
		`,\-`:       Of(',', '-'),
		`_\x80`:     Of('_', 128),
		"'*.?|":     Of('\'', '*', '.', '?', '|'),
	} {
		if got := Format(s); got != want {
			t.Errorf("Format(%v): %q; want %q", s, got, want)
		}
	}
}

func TestP2_3ParseUndoesFormat(t *testing.T) {
	list := samples()
	for low := range 256 {
		for high := range 256 {
			list = append(list, Between(byte(low), byte(high)), Of(byte(low), byte(high)))
		}
	}
	for _, s := range list {
		if got, err := Parse(Format(s)); got != s || err != nil {
			t.Fatalf("Parse(%q): %v, %v; want %v", Format(s), got, err, s)
		}
	}
}

func TestP2_3OneNotationOfEachSet(t *testing.T) {
	for want, list := range map[string][]string{
		"":          {""},
		"a-c":       {"abc", "cab", "a-c", "a-bc", "a-ab-c", "aabbcc", `\x61-\x63`, `\x61b-c`},
		"ab":        {"ab", "ba", "a-b", "b-ba-a"},
		`\-`:        {`\-`, `\x2d`, `\--\-`, `\x2D-\-`},
		`\x00-\xff`: {"\x00-\xff", `\x00-\xFF`, "\x00-\\x80\x80-\xff"},
		`\n`:        {"\n", `\n`, `\x0a`, `\x0A-\n`},
		`\[-\^`:     {`[-^`, `\[-\^`, `\x5b\x5c\x5d^`, `^[\]\\`},
	} {
		for _, text := range list {
			s, err := Parse(text)
			if got := Format(s); got != want || err != nil {
				t.Errorf("Format(Parse(%q)): %q, %v; want %q", text, got, err, want)
			}
		}
	}
}
