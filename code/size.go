// Package code tells how long the code of a pattern is, lays it, weighs it, and tells which of its instructions are chosen.
package code

import (
	"matcher/api"
	"matcher/token"
	"matcher/tree"
)

// tooMany stands for every number of instructions above MaxCode, so that no repeat of repeats can overflow.
const tooMany = api.MaxCode + 1

// Size tells how many instructions the code of a pattern has: MaxCode + 1 if there are more than MaxCode.
// The tree is one that tree.Build has answered with OK.
func Size(t tree.Tree) int {
	size := alternativesSize(t, 0)
	return limited(size + 1)
}

func alternativesSize(t tree.Tree, first int) int {
	size := sequenceSize(t, first)
	for at := t.Sequences[first].Next; at != tree.None; at = t.Sequences[at].Next {
		// Each alternative but the last has a Split and a Jump around it.
		own := sequenceSize(t, at)
		size = limited(size + 2 + own)
	}
	return size
}

func sequenceSize(t tree.Tree, sequence int) int {
	size := 0
	for at := t.Sequences[sequence].First; at != tree.None; at = t.Atoms[at].Next {
		once := atomSize(t, at)
		own := repeatedSize(once, t.Atoms[at].Repeat)
		size = limited(size + own)
	}
	return size
}

// atomSize tells how many instructions an atom has without its repeat.
func atomSize(t tree.Tree, at int) int {
	atom := t.Atoms[at]
	if atom.Body == tree.None {
		return 1
	}
	size := alternativesSize(t, atom.Body)
	if atom.Token.Group == token.Plain {
		return size
	}
	// Open and Close, or Sub and Done.
	return limited(size + 2)
}

// repeatedSize tells how many instructions a repeat makes of an atom that has so many.
func repeatedSize(once int, repeat token.Token) int {
	if repeat.Kind == token.Nothing {
		return once
	}
	size := repeat.Least * once
	if repeat.Most == token.Endless {
		// Split, Mark and Again.
		size += once + 3
	} else {
		size += (repeat.Most - repeat.Least) * (once + 1)
	}
	if repeat.Mood == token.Possessive {
		size += 2
	}
	return limited(size)
}

func limited(size int) int {
	if size > api.MaxCode {
		return tooMany
	}
	return size
}
