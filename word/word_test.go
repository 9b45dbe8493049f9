package word

import (
	"math"
	"regexp"
	"slices"
	"strconv"
	"strings"
	"testing"
	"unicode/utf8"

	"drawbar/api"
)

func wantWords(t *testing.T, s string, want ...string) {
	t.Helper()
	if got, place, e := Words(s); e != api.OK || place != 0 || !slices.Equal(got, want) {
		t.Errorf("Words(%q) = %q, %d, %d, want %q", s, got, place, e, want)
	}
}

func wantFault(t *testing.T, s string, place int, e api.Errno) {
	t.Helper()
	if got, p, x := Words(s); x != e || p != place || len(got) != 0 {
		t.Errorf("Words(%q) = %q, %d, %d, want %d, %d", s, got, p, x, place, e)
	}
}

// P2.1
func TestWords(t *testing.T) {
	wantWords(t, `write 3 "a b"`, "write", "3", "a b")
	wantWords(t, "")
	wantWords(t, " \t\u3000 ")
	wantWords(t, "\ta \u3000b\u3000", "a", "b")
	wantWords(t, `""`, "")
	wantWords(t, `"" "" x`, "", "", "x")
	wantWords(t, `"a" b`, "a", "b")
	wantWords(t, `"\"\\\n\t"`, "\"\\\n\t")
	wantWords(t, `a\n \ \\`, `a\n`, `\`, `\\`)
	wantWords(t, "\"\u3000 \x7f\"\u3000~", "\u3000 \x7f", "~")
	wantWords(t, "é\u0080\u00a0\u2003\U0010ffff\ufeff", "é\u0080\u00a0\u2003\U0010ffff\ufeff")
	wantWords(t, "\ufffd \"\ufffd\"", "\ufffd", "\ufffd")
}

// P2.2
func TestWordsFaults(t *testing.T) {
	for s, place := range map[string]int{
		`a"b`: 1, `a "b" "c"d`: 9, `"a""b"`: 3, `"a"b`: 3, "\"a\"\x01": 3, // behind a word, behind quotes
		"\x00": 0, "a\x1f": 1, " \x7f": 1, "a\x7f": 1, "a\n": 1, "\r": 0, // signs of control
		"\"\t\"": 1, "\"a\n\"": 2, "\"\x1f": 1, // in quotes
		`"\z"`: 2, `"\N"`: 2, `"\ "`: 2, "\"\\\n\"": 2, `"a\0"`: 3, // behind \
		`"`: 1, `a "b`: 4, `"a\`: 3, `"\"`: 3, `" `: 2, "\"\u3000": 4, // quotes are open
		"\xff": 0, "a\x80": 1, "\"\xe3\x80\"": 1, "é\xc0\xaf": 2, "\xed\xa0\x80": 0, "\"\\\xff\"": 2, "\"a\"\xff": 3, "\u3000\xe3\x80": 3, "a \xf4\x90\x80\x80": 2, // not whole
		"\ufffd\xff": 3, "a\x01\xff": 1, "a\xff\x01": 1, // the first one
	} {
		wantFault(t, s, place, api.ErrText)
	}
}

// P2.2
func TestLineLimit(t *testing.T) {
	full := strings.Repeat("ab ", 133)
	if len(full) != api.MaxLine-1 {
		t.Fatalf("%d bytes", len(full))
	}
	wantWords(t, full+"a", slices.Concat(slices.Repeat([]string{"ab"}, 133), []string{"a"})...)
	wantFault(t, full+"\"", api.MaxLine, api.ErrText)
	wantFault(t, full+"ab", api.MaxLine, api.ErrLong)
	wantFault(t, full+"é", api.MaxLine, api.ErrLong)
	wantFault(t, strings.Repeat(" ", api.MaxLine+1), api.MaxLine, api.ErrLong)
	wantFault(t, "\xff\x01"+full, api.MaxLine, api.ErrLong)
	wantFault(t, strings.Repeat("a", 100000), api.MaxLine, api.ErrLong)
	wantWords(t, strings.Repeat(" ", api.MaxLine))
}

// P2.2
func TestWordLimit(t *testing.T) {
	full := strings.Repeat("x", api.MaxWord)
	less := full[:api.MaxWord-1]
	wantWords(t, full, full)
	wantWords(t, `"`+full+`" y`, full, "y")
	wantWords(t, full+" "+full[:199], full, full[:199])
	wantWords(t, `"`+less+`\n"`, less+"\n")
	wantWords(t, strings.Repeat("é", 100), strings.Repeat("é", 100))
	wantWords(t, `"`+strings.Repeat(`\"`, 199)+`"`, strings.Repeat(`"`, 199))

	wantFault(t, full+"x", 200, api.ErrLong)
	wantFault(t, " "+full+"xx", 201, api.ErrLong)
	wantFault(t, `"`+full+`x"`, 201, api.ErrLong)
	wantFault(t, `"`+full+`x`, 201, api.ErrLong)
	wantFault(t, less+"é", 199, api.ErrLong)
	wantFault(t, `"`+full+`\n"`, 202, api.ErrLong)
	wantFault(t, `a "`+full+`\\"`, 204, api.ErrLong)
}

// P2.2: a sign that can't stand behind a full word is no part of it.
func TestWhatCannotStandBehindAFullWord(t *testing.T) {
	full := strings.Repeat("x", api.MaxWord)
	wantFault(t, full+`"`, 200, api.ErrText)
	wantFault(t, full+"\x01", 200, api.ErrText)
	wantFault(t, full+"\xff", 200, api.ErrText)
	wantFault(t, `"`+full+`\z"`, 202, api.ErrText)
	wantFault(t, `"`+full+`\`, 202, api.ErrText)
	wantFault(t, `"`+full, 201, api.ErrText)
	wantFault(t, `"`+full+`"x`, 202, api.ErrText)
	wantFault(t, full+"x\x01", 200, api.ErrLong)
}

const (
	bareForm = `[^\x00-\x20\x{3000}\x7f"]+`
	textForm = `"(?:[^\x00-\x1f"\\]|\\["\\nt])*`
	gapForm  = `[ \t\x{3000}]`
	wordForm = `(?:` + bareForm + `|` + textForm + `")`
)

var (
	lineForm  = regexp.MustCompile(`^` + gapForm + `*(?:` + wordForm + gapForm + `+)*` + wordForm + `?$`)
	openForm  = regexp.MustCompile(`^` + gapForm + `*(?:` + wordForm + gapForm + `+)*` + textForm + `\\?$`)
	wordsForm = regexp.MustCompile(wordForm)
)

// byForm: the words of a short line, and the place at fault, by the form of a line as a whole.
func byForm(s string) ([]string, int, bool) {
	for place, sign := range s {
		if !strings.HasPrefix(s[place:], string(sign)) {
			return nil, place, false
		}
		if head := s[:place+utf8.RuneLen(sign)]; !lineForm.MatchString(head) && !openForm.MatchString(head) {
			return nil, place, false
		}
	}
	if !lineForm.MatchString(s) {
		return nil, len(s), false
	}
	told := strings.NewReplacer(`\"`, `"`, `\\`, `\`, `\n`, "\n", `\t`, "\t")
	var words []string
	for _, w := range wordsForm.FindAllString(s, -1) {
		if w[0] == '"' {
			w = told.Replace(w[1 : len(w)-1])
		}
		words = append(words, w)
	}
	return words, 0, true
}

// allTexts: every text of up to so many of these parts.
func allTexts(parts []string, most int) []string {
	all, last := []string{""}, []string{""}
	for range most {
		var next []string
		for _, s := range last {
			for _, p := range parts {
				next = append(next, s+p)
			}
		}
		all, last = append(all, next...), next
	}
	return all
}

// P2.1, P2.2: all short lines.
func TestWordsByForm(t *testing.T) {
	for _, s := range allTexts([]string{"n", "é", "\\", "\"", " ", "\t", "\u3000", "\n", "\x7f", "\xff"}, 5) {
		words, place, ok := byForm(s)
		if ok {
			wantWords(t, s, words...)
		} else {
			wantFault(t, s, place, api.ErrText)
		}
	}
}

// P2.3
func TestQuote(t *testing.T) {
	for s, want := range map[string]string{
		"": `""`, "a": "a", "é~": "é~", "-7": "-7", "a b": `"a b"`, "a\u3000": "\"a\u3000\"", `a"`: `"a\""`, `a\b`: `"a\\b"`, `\`: `"\\"`,
		"\n\t": `"\n\t"`, "\x7f": "\"\x7f\"", "\ufffd": "\ufffd", "\u00a0": "\u00a0",
	} {
		if got := Quote(s); got != want {
			t.Errorf("Quote(%q) = %s, want %s", s, got, want)
		}
	}
}

// P2.3: a word whose signs are s: bare just if it can be, and without \.
func TestQuotedIsOneWord(t *testing.T) {
	for _, s := range allTexts([]string{"a", "é", "\\", "\"", " ", "\t", "\u3000", "\n", "\x7f", "\ufffd"}, 4) {
		q := Quote(s)
		wantWords(t, q, s)
		bare := s != "" && !strings.ContainsAny(s, "\\\" \t\u3000\n\x7f")
		if bare != (q == s) {
			t.Errorf("Quote(%q) = %s", s, q)
		}
	}
	if s := strings.Repeat("x ", 5000); Quote(s) != `"`+s+`"` {
		t.Error("a text that is longer than a line")
	}
}

// P2.3
func TestNumber(t *testing.T) {
	for _, n := range []int{0, 1, -1, 9, 10, -10, 2147483648, -2147483649, math.MaxInt, math.MinInt} {
		if got, ok := Number(strconv.Itoa(n)); !ok || got != n {
			t.Errorf("%d: %d, %v", n, got, ok)
		}
	}
	for _, s := range []string{
		"", "-", "+", "+1", "-0", "00", "01", "-01", "0x1", "1_0", "1.0", "1e3", " 1", "1 ", "a", "1a", "--1", "\u0661", "１", "1\xff", "\x00",
		"9223372036854775808", "-9223372036854775809", "18446744073709551616", strings.Repeat("9", 1000), strings.Repeat("0", 30),
	} {
		if got, ok := Number(s); ok || got != 0 {
			t.Errorf("%q: %d, %v", s, got, ok)
		}
	}
}

// P2.3
func TestCount(t *testing.T) {
	for s, want := range map[string]int{"": 0, "a": 1, "aé\u3000": 3, "\x00\n\x7f\"": 4, "\ufffd": 1, "\U0010ffff\u0301": 2, strings.Repeat("é", 3000): 3000} {
		if got, ok := Count(s); !ok || got != want {
			t.Errorf("%q: %d, %v, want %d", s, got, ok, want)
		}
	}
	for _, s := range []string{"\xff", "a\x80", "\xe3\x80", "é\xc0\xaf", "\xed\xa0\x80", "\xf4\x90\x80\x80", "\ufffd\xbd", "a\xc3a"} {
		if got, ok := Count(s); ok || got != 0 {
			t.Errorf("%q: %d, %v", s, got, ok)
		}
	}
}

// P1: texts of any bytes, with what stands where a sign is cut.
func TestCallsEndAtAllTexts(t *testing.T) {
	var parts []string
	for b := range 256 {
		parts = append(parts, string([]byte{byte(b)}))
	}
	for _, s := range allTexts(parts, 2) {
		for _, x := range []string{s, `"` + s, `"\` + s, "é" + s + `"`} {
			words, place, e := Words(x)
			if place < 0 || place > len(x) || e != api.OK && len(words) > 0 || e != api.OK && e != api.ErrText {
				t.Fatalf("%q: %q, %d, %d", x, words, place, e)
			}
			if n, ok := Count(x); ok != utf8.ValidString(x) || ok && n != utf8.RuneCountInString(x) {
				t.Fatalf("%q: %d, %v", x, n, ok)
			}
			if got, ok := Number(x); ok && strconv.Itoa(got) != x {
				t.Fatalf("%q: %d", x, got)
			}
			Quote(x)
		}
	}
}

// P2: no line plays a part in the next one's words.
func TestLinesAreApart(t *testing.T) {
	first, _, _ := Words(`a "b`)
	again, _, e := Words(`c "d e"`)
	if len(first) != 0 || e != api.OK || !slices.Equal(again, []string{"c", "d e"}) {
		t.Errorf("%q, %q", first, again)
	}
	again[0] = "z"
	wantWords(t, `c "d e"`, "c", "d e")
}
