package word

import (
	"unicode/utf8"

	"drawbar/api"
)

// Where the signs of a line have come to.
const (
	between byte = iota // words
	bare                // in a word without quotes
	quoted              // in a text in quotes
	slashed             // there, behind a \
	closed              // behind a text in quotes
)

// line is what the signs of a line have told so far: the words that are done, and the one that has begun.
type line struct {
	words []string
	word  []byte
	at    byte
}

// take goes on by one sign.
func (l *line) take(sign rune) api.Errno {
	switch l.at {
	case quoted:
		return l.takeQuoted(sign)
	case slashed:
		return l.takeSlashed(sign)
	}
	switch {
	case parts(sign):
		l.part()
	case sign == '"' && l.at == between:
		l.at = quoted
	case l.at == closed || !isPlain(sign):
		return api.ErrText
	default:
		l.at = bare
		return l.add(sign)
	}
	return api.OK
}

func (l *line) takeQuoted(sign rune) api.Errno {
	switch {
	case sign == '"':
		l.at = closed
	case sign == '\\':
		l.at = slashed
	case sign < blank:
		return api.ErrText
	default:
		return l.add(sign)
	}
	return api.OK
}

func (l *line) takeSlashed(sign rune) api.Errno {
	l.at = quoted
	switch sign {
	case '"', '\\':
		return l.add(sign)
	case 'n':
		return l.add('\n')
	case 't':
		return l.add('\t')
	}
	return api.ErrText
}

// add lays a sign behind the word that has begun.
func (l *line) add(sign rune) api.Errno {
	if len(l.word)+utf8.RuneLen(sign) > api.MaxWord {
		return api.ErrLong
	}
	l.word = utf8.AppendRune(l.word, sign)
	return api.OK
}

// part ends the word that has begun, if one has.
func (l *line) part() {
	if l.at != between {
		l.words = append(l.words, string(l.word))
	}
	l.word = l.word[:0]
	l.at = between
}

// end is told behind the last sign: quotes mustn't be open there.
func (l *line) end() api.Errno {
	if l.at == quoted || l.at == slashed {
		return api.ErrText
	}
	l.part()
	return api.OK
}
