package token

import "matcher/api"

func readClass(pattern string, at int) (Token, api.Errno) {
	next := at + 1
	if byteAt(pattern, next) == '^' {
		next++
	}
	first := next
	for byteAt(pattern, next) != ']' {
		end, ok := readItem(pattern, next)
		if !ok {
			return Token{}, api.ErrClass
		}
		next = end
	}
	if next == first {
		return Token{}, api.ErrClass
	}
	return Token{Kind: Bytes, End: next + 1}, api.OK
}

// readItem reads an item of a class and tells where it ends.
func readItem(pattern string, at int) (int, bool) {
	if byteAt(pattern, at) == '\\' {
		escaped := byteAt(pattern, at+1)
		if isSetLetter(escaped) {
			return at + 2, true
		}
	}
	low, end, ok := readClassByte(pattern, at)
	if !ok {
		return 0, false
	}
	if byteAt(pattern, end) != '-' {
		return end, true
	}
	high, rangeEnd, ok := readClassByte(pattern, end+1)
	if !ok || low > high {
		return 0, false
	}
	return rangeEnd, true
}

// readClassByte reads a byte that stands for itself in a class, and where it ends.
func readClassByte(pattern string, at int) (int, int, bool) {
	own := byteAt(pattern, at)
	switch own {
	case noByte, ']', '-':
		return 0, 0, false
	case '\\':
		escaped := byteAt(pattern, at+1)
		if !canBeEscaped(escaped) {
			return 0, 0, false
		}
		return escaped, at + 2, true
	}
	return own, at + 1, true
}
