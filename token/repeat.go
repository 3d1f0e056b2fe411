package token

import "matcher/api"

// readMood gives the repeat whose mood stands, if it is said at all, at a place.
func readMood(pattern string, at int, least int, most int) Token {
	repeat := Token{Kind: Repeat, End: at, Least: least, Most: most, Mood: Greedy}
	switch byteAt(pattern, at) {
	case '?':
		repeat.Mood = Lazy
		repeat.End = at + 1
	case '+':
		repeat.Mood = Possessive
		repeat.End = at + 1
	}
	return repeat
}

func readCount(pattern string, at int) (Token, api.Errno) {
	least, end, ok := readNumber(pattern, at+1)
	if !ok {
		return Token{}, api.ErrCount
	}
	most := least
	if byteAt(pattern, end) == ',' {
		most, end, ok = readMost(pattern, end+1)
		if !ok || most != Endless && most < least {
			return Token{}, api.ErrCount
		}
	}
	if byteAt(pattern, end) != '}' {
		return Token{}, api.ErrCount
	}
	return readMood(pattern, end+1, least, most), api.OK
}

// readMost reads what stands behind the comma of a count, and where that ends.
func readMost(pattern string, at int) (int, int, bool) {
	if byteAt(pattern, at) == '}' {
		return Endless, at, true
	}
	return readNumber(pattern, at)
}

// readNumber reads one or two digits, and where they end. A third digit is left to be stumbled over.
func readNumber(pattern string, at int) (int, int, bool) {
	first := byteAt(pattern, at)
	if !isDigit(first) {
		return 0, 0, false
	}
	number := first - '0'
	end := at + 1
	second := byteAt(pattern, end)
	if isDigit(second) {
		number = number*10 + second - '0'
		end++
	}
	if number > api.MaxCount {
		return 0, 0, false
	}
	return number, end, true
}
