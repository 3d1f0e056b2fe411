// Package token reads the tokens of a pattern, one at a time.
package token

import "matcher/api"

// The kinds of tokens.
const (
	Nothing = 0 // no token
	Bar     = 1 // stands between alternatives
	Open    = 2 // opens a group, of the sort Group
	Close   = 3 // closes a group
	Repeat  = 4 // repeats an atom, Least to Most times, as Mood says
	Bytes   = 5 // lets by bytes
	Back    = 6 // the bytes of the group Number
	Head    = 7 // the start of the text
	Tail    = 8 // the end of the text
)

// The sorts of groups.
const (
	Capturing = 1
	Plain     = 2
	Atomic    = 3
	Ahead     = 4
	Never     = 5
)

// The moods of repeats.
const (
	Greedy     = 1
	Lazy       = 2
	Possessive = 3
)

// Endless is the Most of a repeat that has no upper bound.
const Endless = -1

// Token is one token. What its Kind does not use is 0.
type Token struct {
	Kind              int
	End               int // the place behind its last byte
	Group             int
	Number            int
	Least, Most, Mood int
	Set               string // the bytes that are let by, rising, each once
}

// Read reads the token that begins at a place. Behind the pattern's end that is Nothing.
func Read(pattern string, at int) (Token, api.Errno) {
	first := byteAt(pattern, at)
	switch first {
	case noByte:
		return Token{}, api.OK
	case '|':
		return Token{Kind: Bar, End: at + 1}, api.OK
	case '(':
		return readOpening(pattern, at)
	case ')':
		return Token{Kind: Close, End: at + 1}, api.OK
	case '*':
		return readMood(pattern, at+1, 0, Endless), api.OK
	case '+':
		return readMood(pattern, at+1, 1, Endless), api.OK
	case '?':
		return readMood(pattern, at+1, 0, 1), api.OK
	case '{':
		return readCount(pattern, at)
	case '^':
		return Token{Kind: Head, End: at + 1}, api.OK
	case '$':
		return Token{Kind: Tail, End: at + 1}, api.OK
	case '.':
		return letBy(0, 255, at+1), api.OK
	case '[':
		return readClass(pattern, at)
	case '\\':
		return readEscape(pattern, at)
	}
	return letBy(first, first, at+1), api.OK
}

// letBy gives the token that ends at a place and lets by all bytes from the first to the last.
func letBy(first int, last int, end int) Token {
	var set byteSet
	set.addRange(first, last)
	return Token{Kind: Bytes, End: end, Set: set.text()}
}

func readOpening(pattern string, at int) (Token, api.Errno) {
	if byteAt(pattern, at+1) != '?' {
		return Token{Kind: Open, End: at + 1, Group: Capturing}, api.OK
	}
	opening := Token{Kind: Open, End: at + 3}
	switch byteAt(pattern, at+2) {
	case ':':
		opening.Group = Plain
	case '>':
		opening.Group = Atomic
	case '=':
		opening.Group = Ahead
	case '!':
		opening.Group = Never
	default:
		return Token{}, api.ErrGroup
	}
	return opening, api.OK
}

func readEscape(pattern string, at int) (Token, api.Errno) {
	next := byteAt(pattern, at+1)
	if next >= '1' && next <= '9' {
		return Token{Kind: Back, End: at + 2, Number: next - '0'}, api.OK
	}
	if isSetLetter(next) {
		var set byteSet
		set.addLetter(next)
		return Token{Kind: Bytes, End: at + 2, Set: set.text()}, api.OK
	}
	if canBeEscaped(next) {
		return letBy(next, next, at+2), api.OK
	}
	return Token{}, api.ErrEscape
}
