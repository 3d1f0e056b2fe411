package code

import (
	"matcher/api"
	"matcher/token"
	"matcher/tree"
)

// layRepeat lays an atom as often as its repeat says. Of a possessive repeat that is what stands in the Sub.
func (l *layer) layRepeat(atom tree.Atom) {
	l.layTimes(atom, atom.Repeat.Least)
	if atom.Repeat.Most == token.Endless {
		l.layLoop(atom)
		return
	}
	l.layOptional(atom, atom.Repeat.Most-atom.Repeat.Least)
}

// layTimes stops at once at an atom without instructions: repeats of it within repeats would take too long.
func (l *layer) layTimes(atom tree.Atom, times int) {
	for i := 0; i < times; i++ {
		before := len(l.code)
		l.layAtom(atom)
		if len(l.code) == before {
			return
		}
	}
}

// layOptional lays an atom so many times that it may be left out from any time on.
func (l *layer) layOptional(atom tree.Atom, times int) {
	var splits []int
	for i := 0; i < times; i++ {
		split := l.put(api.Inst{Op: api.Split})
		splits = append(splits, split)
		l.layAtom(atom)
	}
	for _, split := range splits {
		l.aim(split, atom.Repeat.Mood)
	}
}

// layLoop lays an atom that may come any number of times.
func (l *layer) layLoop(atom tree.Atom) {
	split := l.put(api.Inst{Op: api.Split})
	depth := l.loops
	l.put(api.Inst{Op: api.Mark, X: depth})
	l.loops = depth + 1
	l.layAtom(atom)
	l.put(api.Inst{Op: api.Again, X: split, Y: depth})
	l.loops = depth
	l.aim(split, atom.Repeat.Mood)
}

// aim lets a Split choose between the instruction behind it and the end of what is laid so far.
func (l *layer) aim(split int, mood int) {
	in := split + 1
	out := len(l.code)
	if mood == token.Lazy {
		l.code[split] = api.Inst{Op: api.Split, X: out, Y: in}
		return
	}
	l.code[split] = api.Inst{Op: api.Split, X: in, Y: out}
}
