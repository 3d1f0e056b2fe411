package token

// byteSet tells of each byte whether it is in the set.
type byteSet struct {
	has [256]bool
}

// addRange adds all bytes from the first to the last.
func (s *byteSet) addRange(first int, last int) {
	for b := 0; b < len(s.has); b++ {
		if b >= first && b <= last {
			s.has[b] = true
		}
	}
}

// addLetter adds the bytes for which a backslash before the letter stands.
func (s *byteSet) addLetter(letter int) {
	s.addRange('0', '9')
	if letter == 'w' {
		s.addRange('A', 'Z')
		s.addRange('_', '_')
		s.addRange('a', 'z')
	}
}

// invert makes the set that of all other bytes.
func (s *byteSet) invert() {
	for b := 0; b < len(s.has); b++ {
		s.has[b] = !s.has[b]
	}
}

// text gives the bytes of the set, rising, each once.
func (s *byteSet) text() string {
	var bytes []byte
	for b := 0; b < len(s.has); b++ {
		if s.has[b] {
			bytes = append(bytes, byte(b))
		}
	}
	return string(bytes)
}
