// Package signs is layer 1: bytes, the signs that they are, and what stands for them. See shared/doc/01-signs.md.
package signs

import (
	"strings"
	"unicode/utf8"

	"tidewater/api"
)

// standIn is a sign, and the text that stands for it.
type standIn struct {
	sign rune
	text string
}

// Both ways read this one table, so that what is escaped comes back.
var standIns = [5]standIn{
	{'&', "&amp;"},
	{'<', "&lt;"},
	{'>', "&gt;"},
	{'"', "&quot;"},
	{'\'', "&apos;"},
}

// Right answers ErrSign if some bytes of s are no sign's, or one's that may not be.
func Right(s string) api.Errno {
	n, e := Whole(s)
	if e != api.OK || n < len(s) {
		return api.ErrSign
	}
	return api.OK
}

// Whole answers how many bytes at the beginning of s are whole signs that may be: all but an end that more bytes could make one.
func Whole(s string) (int, api.Errno) {
	for i, r := range s {
		if isBroken(s[i:], r) {
			if utf8.FullRuneInString(s[i:]) {
				return 0, api.ErrSign
			}
			return i, api.OK
		}
		if !mayBe(r) {
			return 0, api.ErrSign
		}
	}
	return len(s), api.OK
}

// isBroken tells whether rest, at whose beginning the language reads r, begins with no sign.
// The language answers 65533 for such bytes, but that is a sign too, with bytes of its own.
func isBroken(rest string, r rune) bool {
	return r == utf8.RuneError && !strings.HasPrefix(rest, string(utf8.RuneError))
}

func mayBe(r rune) bool {
	switch r {
	case 9, 10, 13:
		return true
	case 65534, 65535:
		return false
	}
	return r >= 32
}

// Escape answers s with each of & < > " ' as what stands for it.
func Escape(s string) (string, api.Errno) {
	if e := Right(s); e != api.OK {
		return "", e
	}
	var b strings.Builder
	for _, r := range s {
		if text, ok := textFor(r); ok {
			b.WriteString(text)
		} else {
			b.WriteRune(r)
		}
	}
	return b.String(), api.OK
}

// Unescape answers s with each sign in the place of what stands for it.
func Unescape(s string) (string, api.Errno) {
	if e := Right(s); e != api.OK {
		return "", e
	}
	var b strings.Builder
	past := 0 // where the last text that stood for a sign ended
	for i, r := range s {
		if i < past {
			continue
		}
		switch r {
		case '<':
			return "", api.ErrForm
		case '&':
			known, ok := standInAt(s[i:])
			if !ok {
				return "", api.ErrForm
			}
			past = i + len(known.text)
			r = known.sign
		}
		b.WriteRune(r)
	}
	return b.String(), api.OK
}

func textFor(r rune) (string, bool) {
	for _, known := range standIns {
		if known.sign == r {
			return known.text, true
		}
	}
	return "", false
}

func standInAt(rest string) (standIn, bool) {
	for _, known := range standIns {
		if strings.HasPrefix(rest, known.text) {
			return known, true
		}
	}
	return standIn{}, false
}

// Name tells whether s may be a name: 1 to MaxName bytes, the first a to z, the others a to z, 0 to 9, - or a colon.
func Name(s string) bool {
	if len(s) < 1 || len(s) > api.MaxName {
		return false
	}
	for i, r := range s {
		if !isLetter(r) && (i == 0 || !isLater(r)) {
			return false
		}
	}
	return true
}

func isLetter(r rune) bool { return 'a' <= r && r <= 'z' }

// isLater tells whether r may be in a name behind its first sign, beside the letters.
func isLater(r rune) bool { return '0' <= r && r <= '9' || r == '-' || r == ':' }
