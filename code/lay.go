package code

import (
	"matcher/api"
	"matcher/token"
	"matcher/tree"
)

// layer lays the instructions of a pattern one behind the other.
type layer struct {
	tree  tree.Tree
	code  []api.Inst
	loops int // how many loops the next instruction stands in
}

// Lay gives the code of a pattern.
// The tree is one that tree.Build has answered with OK, and its Size is at most MaxCode.
func Lay(t tree.Tree) []api.Inst {
	l := layer{tree: t}
	l.layAlternatives(0)
	l.put(api.Inst{Op: api.Match})
	return l.code
}

// put lays an instruction and tells its number.
func (l *layer) put(in api.Inst) int {
	number := len(l.code)
	l.code = append(l.code, in)
	return number
}

func (l *layer) layAlternatives(first int) {
	next := l.tree.Sequences[first].Next
	if next == tree.None {
		l.laySequence(first)
		return
	}
	split := l.put(api.Inst{Op: api.Split})
	l.laySequence(first)
	jump := l.put(api.Inst{Op: api.Jump})
	l.code[split] = api.Inst{Op: api.Split, X: split + 1, Y: len(l.code)}
	l.layAlternatives(next)
	l.code[jump].X = len(l.code)
}

func (l *layer) laySequence(sequence int) {
	for at := l.tree.Sequences[sequence].First; at != tree.None; at = l.tree.Atoms[at].Next {
		l.layPart(l.tree.Atoms[at])
	}
}

// layPart lays an atom with its repeat or without.
func (l *layer) layPart(atom tree.Atom) {
	if atom.Repeat.Kind == token.Nothing {
		l.layAtom(atom)
		return
	}
	if atom.Repeat.Mood != token.Possessive {
		l.layRepeat(atom)
		return
	}
	sub := l.put(api.Inst{Op: api.Sub, X: api.Atomic})
	l.layRepeat(atom)
	l.endSub(sub)
}

// endSub lays the end of a run of its own and tells the Sub where that is.
func (l *layer) endSub(sub int) {
	l.put(api.Inst{Op: api.Done})
	l.code[sub].Y = len(l.code)
}

// layAtom lays an atom without its repeat.
func (l *layer) layAtom(atom tree.Atom) {
	switch atom.Token.Kind {
	case token.Open:
		l.layGroup(atom)
	case token.Bytes:
		l.put(api.Inst{Op: api.One, Set: atom.Token.Set})
	case token.Back:
		l.put(api.Inst{Op: api.Back, X: atom.Token.Number})
	case token.Head:
		l.put(api.Inst{Op: api.Head})
	case token.Tail:
		l.put(api.Inst{Op: api.Tail})
	}
}

func (l *layer) layGroup(group tree.Atom) {
	switch group.Token.Group {
	case token.Plain:
		l.layAlternatives(group.Body)
	case token.Capturing:
		l.put(api.Inst{Op: api.Open, X: group.Number})
		l.layAlternatives(group.Body)
		l.put(api.Inst{Op: api.Close, X: group.Number})
	case token.Atomic:
		l.laySub(api.Atomic, group.Body)
	case token.Ahead:
		l.laySub(api.Ahead, group.Body)
	case token.Never:
		l.laySub(api.Never, group.Body)
	}
}

func (l *layer) laySub(sort int, body int) {
	sub := l.put(api.Inst{Op: api.Sub, X: sort})
	l.layAlternatives(body)
	l.endSub(sub)
}
