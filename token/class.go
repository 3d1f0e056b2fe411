package token

import "matcher/api"

func readClass(pattern string, at int) (Token, api.Errno) {
	next := at + 1
	inverted := byteAt(pattern, next) == '^'
	if inverted {
		next++
	}
	first := next
	var set byteSet
	for byteAt(pattern, next) != ']' {
		end, ok := readItem(pattern, next, &set)
		if !ok {
			return Token{}, api.ErrClass
		}
		next = end
	}
	if next == first {
		return Token{}, api.ErrClass
	}
	if inverted {
		set.invert()
	}
	return Token{Kind: Bytes, End: next + 1, Set: set.text()}, api.OK
}

// readItem reads an item of a class, adds its bytes to the set and tells where it ends.
func readItem(pattern string, at int, set *byteSet) (int, bool) {
	if byteAt(pattern, at) == '\\' {
		escaped := byteAt(pattern, at+1)
		if isSetLetter(escaped) {
			set.addLetter(escaped)
			return at + 2, true
		}
	}
	low, end, ok := readClassByte(pattern, at)
	if !ok {
		return 0, false
	}
	if byteAt(pattern, end) != '-' {
		set.addRange(low, low)
		return end, true
	}
	high, rangeEnd, ok := readClassByte(pattern, end+1)
	if !ok || low > high {
		return 0, false
	}
	set.addRange(low, high)
	return rangeEnd, true
}

// readClassByte reads a byte that stands for itself in a class, and where it ends.
func readClassByte(pattern string, at int) (int, int, bool) {
	own := byteAt(pattern, at)
	switch own {
	case noByte, ']', '-':
		return 0, 0, false
	case '\\':
		escaped := byteAt(pattern, at+1)
		if !canBeEscaped(escaped) {
			return 0, 0, false
		}
		return escaped, at + 2, true
	}
	return own, at + 1, true
}
