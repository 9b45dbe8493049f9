// Package word is layer 2: the words of a line. See shared/doc/02-word.md.
package word

import (
	"strconv"
	"strings"
	"unicode/utf8"

	"drawbar/api"
)

const (
	blank     rune = 0x20   // also the least sign that is none of control
	wideBlank rune = 0x3000 // the ideographic blank
	wipe      rune = 0x7f   // a sign of control that stands above blank
)

// Words: the words of a line; the place at fault.
func Words(s string) ([]string, int, api.Errno) {
	if len(s) > api.MaxLine {
		return nil, api.MaxLine, api.ErrLong
	}
	var l line
	place, e := each(s, func(sign rune) api.Errno { return l.take(sign) })
	if e == api.OK {
		e = l.end()
	}
	if e != api.OK {
		return nil, place, e
	}
	return l.words, 0, api.OK
}

// Quote: a text as a word of a line.
func Quote(s string) string {
	if s != "" && isBare(s) {
		return s
	}
	behindSlash := strings.NewReplacer("\"", "\\\"", "\\", "\\\\", "\n", "\\n", "\t", "\\t")
	return "\"" + behindSlash.Replace(s) + "\""
}

// Number: the number that is written so; false: none is.
func Number(s string) (int, bool) {
	n, err := strconv.ParseInt(s, 10, 64)
	if err != nil || strconv.FormatInt(n, 10) != s { // ParseInt takes a + and noughts ahead too
		return 0, false
	}
	return int(n), true
}

// Count: how many signs a text has; false: it isn't whole.
func Count(s string) (int, bool) {
	n := 0
	_, e := each(s, func(rune) api.Errno {
		n++
		return api.OK
	})
	if e != api.OK {
		return 0, false
	}
	return n, true
}

// each hands the signs of s on, one by one, up to the first that isn't whole (ErrText) or that is answered by an error; it tells that one's place, or the end's.
func each(s string, tell func(sign rune) api.Errno) (int, api.Errno) {
	for place, sign := range s {
		if !whole(sign, s[place:]) {
			return place, api.ErrText
		}
		if e := tell(sign); e != api.OK {
			return place, e
		}
	}
	return len(s), api.OK
}

// whole: does the text begin with that sign? What isn't whole is handed out as RuneError, which is a sign of its own too: only the bytes tell them apart.
func whole(sign rune, text string) bool {
	return sign != utf8.RuneError || strings.HasPrefix(text, string(sign))
}

// isBare: are the signs of s those of a word that needs neither quotes nor \?
func isBare(s string) bool {
	_, e := each(s, func(sign rune) api.Errno {
		if !isPlain(sign) || sign == '\\' {
			return api.ErrText
		}
		return api.OK
	})
	return e == api.OK
}

// isPlain: can a sign stand in a word without quotes?
func isPlain(sign rune) bool {
	return sign > blank && sign != wipe && sign != '"' && sign != wideBlank
}

// parts: does a sign part words?
func parts(sign rune) bool {
	return sign == blank || sign == '\t' || sign == wideBlank
}
