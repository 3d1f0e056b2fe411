// Package tree reads a whole pattern: which atoms stand in which sequence, and what repeats them.
package tree

import (
	"matcher/api"
	"matcher/token"
)

// None is the number of no sequence and of no atom.
const None = -1

// Tree is a pattern that was read. Its first alternative is the sequence 0.
type Tree struct {
	Sequences []Sequence
	Atoms     []Atom
}

// Sequence is a row of atoms, one of the alternatives of a pattern or of a group.
type Sequence struct {
	First int // its first atom, or None
	Next  int // the next alternative, or None
}

// Atom is an atom with its repeat or without.
type Atom struct {
	Token  token.Token // of a group: its opening
	Number int         // of a capturing group
	Repeat token.Token // of the kind Nothing, if there is none
	Body   int         // of a group: its first alternative; else None
	Home   int         // the sequence in which it stands
	Next   int         // the next atom there, or None
}

// Build reads a pattern. With an error comes its place in the pattern.
func Build(pattern string) (Tree, api.Errno, int) {
	if len(pattern) > api.MaxPattern {
		return Tree{}, api.ErrLong, 0
	}
	b := builder{last: None}
	first := b.newSequence()
	b.sequence = first
	at := 0
	for at < len(pattern) {
		next, e := token.Read(pattern, at)
		if e == api.OK {
			e = b.take(next)
		}
		if e != api.OK {
			return Tree{}, e, at
		}
		at = next.End
	}
	if len(b.open) > 0 {
		return Tree{}, api.ErrOpen, len(pattern)
	}
	return b.tree, api.OK, 0
}
