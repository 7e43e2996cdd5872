// Package label is layer 1: levels and compartments, which make a lattice. See shared/doc/01-label.md.
package label

import (
	"strings"

	"lockage/api"
)

// sixteen holds the digits of a label's text; capital letters are left out, so that each label has one text.
const sixteen = "0123456789abcdef"

// textLen is the length of every label's text: a level's digit, a colon, and four digits for Set.
const textLen = 6

// Right: may it be?
func Right(l api.Label) bool { return 0 <= l.Level && l.Level <= api.MaxLevel }

// Join: the least one above both.
func Join(a, b api.Label) api.Label {
	return api.Label{Level: max(a.Level, b.Level), Set: a.Set | b.Set}
}

// Meet: the greatest one below both.
func Meet(a, b api.Label) api.Label {
	return api.Label{Level: min(a.Level, b.Level), Set: a.Set & b.Set}
}

// Leq: may what is of the one flow to the other?
func Leq(a, b api.Label) bool { return a.Level <= b.Level && a.Set&^b.Set == 0 }

// Less: and is it another one?
func Less(a, b api.Label) bool { return a != b && Leq(a, b) }

// Off: what is taken off on the way from one to another.
func Off(from, to api.Label) api.Label {
	off := api.Label{Set: from.Set &^ to.Set}
	if from.Level > to.Level {
		// The whole level, not the difference: whoever lowers it must be trusted with where it comes from.
		off.Level = from.Level
	}
	return off
}

// Over: may one who may take off so much take that off?
func Over(auth, off api.Label) bool { return Leq(off, auth) }

// Text: as a text; empty, if it may not be.
func Text(l api.Label) string {
	if !Right(l) {
		return ""
	}
	text := []byte{sixteen[l.Level], ':'}
	for shift := 12; shift >= 0; shift -= 4 {
		text = append(text, sixteen[l.Set>>shift&15])
	}
	return string(text)
}

// Parse: and back.
func Parse(s string) (api.Label, api.Errno) {
	if len(s) != textLen || s[1] != ':' {
		return api.Label{}, api.ErrForm
	}
	l := api.Label{Level: strings.IndexByte(sixteen, s[0])}
	if !Right(l) {
		return api.Label{}, api.ErrForm
	}
	for i := 2; i < textLen; i++ {
		digit := strings.IndexByte(sixteen, s[i])
		if digit < 0 {
			return api.Label{}, api.ErrForm
		}
		l.Set = l.Set<<4 | uint16(digit)
	}
	return l, api.OK
}
