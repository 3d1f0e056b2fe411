package tree

import (
	"matcher/api"
	"matcher/token"
)

// builder holds what was read so far, and where the next token goes.
type builder struct {
	tree     Tree
	sequence int   // in which the next atom stands
	last     int   // the last atom of that sequence, or None
	open     []int // the groups that are open, the innermost last
	groups   int   // how many capturing groups were opened
	closed   [api.MaxGroups + 1]bool
}

func (b *builder) take(t token.Token) api.Errno {
	switch t.Kind {
	case token.Bar:
		b.takeBar()
	case token.Open:
		return b.takeOpening(t)
	case token.Close:
		return b.takeClose()
	case token.Repeat:
		return b.takeRepeat(t)
	case token.Back:
		return b.takeBack(t)
	default:
		b.addAtom(t)
	}
	return api.OK
}

func (b *builder) takeBar() {
	next := b.newSequence()
	b.tree.Sequences[b.sequence].Next = next
	b.sequence = next
	b.last = None
}

func (b *builder) takeOpening(t token.Token) api.Errno {
	if len(b.open) >= api.MaxNest {
		return api.ErrDeep
	}
	if t.Group == token.Capturing && b.groups >= api.MaxGroups {
		return api.ErrMany
	}
	b.addAtom(t)
	group := b.last
	if t.Group == token.Capturing {
		b.groups++
		b.tree.Atoms[group].Number = b.groups
	}
	b.open = append(b.open, group)
	body := b.newSequence()
	b.tree.Atoms[group].Body = body
	b.sequence = body
	b.last = None
	return api.OK
}

func (b *builder) takeClose() api.Errno {
	inner := len(b.open) - 1
	if inner < 0 {
		return api.ErrClose
	}
	group := b.open[inner]
	b.open = b.open[:inner]
	// Of a group that captures nothing the number is 0, which no backreference asks for.
	b.closed[b.tree.Atoms[group].Number] = true
	b.sequence = b.tree.Atoms[group].Home
	b.last = group
	return api.OK
}

func (b *builder) takeRepeat(t token.Token) api.Errno {
	if b.last == None || b.tree.Atoms[b.last].Repeat.Kind != token.Nothing {
		return api.ErrRepeat
	}
	b.tree.Atoms[b.last].Repeat = t
	return api.OK
}

func (b *builder) takeBack(t token.Token) api.Errno {
	if t.Number > b.groups || !b.closed[t.Number] {
		return api.ErrBack
	}
	b.addAtom(t)
	return api.OK
}

// newSequence makes an empty sequence and tells its number.
func (b *builder) newSequence() int {
	b.tree.Sequences = append(b.tree.Sequences, Sequence{First: None, Next: None})
	return len(b.tree.Sequences) - 1
}

// addAtom lays an atom behind the last one.
func (b *builder) addAtom(t token.Token) {
	atom := len(b.tree.Atoms)
	b.tree.Atoms = append(b.tree.Atoms, Atom{Token: t, Body: None, Home: b.sequence, Next: None})
	if b.last == None {
		b.tree.Sequences[b.sequence].First = atom
	} else {
		b.tree.Atoms[b.last].Next = atom
	}
	b.last = atom
}
