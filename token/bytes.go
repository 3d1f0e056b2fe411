package token

// noByte stands for the byte that is not there, outside the pattern.
const noByte = -1

// byteAt spares all readers the test whether a place is in the pattern.
func byteAt(pattern string, at int) int {
	if at < 0 || at >= len(pattern) {
		return noByte
	}
	return int(pattern[at])
}

func isDigit(b int) bool {
	return b >= '0' && b <= '9'
}

func isLetter(b int) bool {
	return b >= 'a' && b <= 'z' || b >= 'A' && b <= 'Z'
}

// isSetLetter tells whether a backslash before the byte stands for a set of bytes.
func isSetLetter(b int) bool {
	return b == 'd' || b == 'w'
}

// canBeEscaped tells whether a backslash before the byte stands for the byte itself.
func canBeEscaped(b int) bool {
	return b != noByte && !isLetter(b) && !isDigit(b)
}
