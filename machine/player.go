package machine

import "matcher/api"

// player plays runs of one search.
type player struct {
	code    []api.Inst
	text    string
	budget  int
	steps   int
	table   table
	waiting []state // of all runs that are not over, the innermost run's last
}

// run plays until Done or Match is looked at, and gives the state that came there; or until no state waits in this run.
// Beyond the budget it stops, with neither.
func (p *player) run(first state) (state, bool) {
	before := len(p.waiting)
	p.wait(first, first.inst)
	for len(p.waiting) > before && !p.spent() {
		last := len(p.waiting) - 1
		s := p.waiting[last]
		p.waiting = p.waiting[:last]
		p.steps++
		known := p.table.ends(s)
		if known {
			continue
		}
		ended := p.look(s)
		if ended {
			p.waiting = p.waiting[:before]
			return s, true
		}
	}
	return state{}, false
}

// spent tells whether there were more steps than there may be.
func (p *player) spent() bool {
	return p.steps > p.budget
}

// wait lets a state wait at an instruction.
func (p *player) wait(s state, inst int) {
	s.inst = inst
	p.waiting = append(p.waiting, s)
}

// look does the instruction of a state, and tells whether the run ends with it.
func (p *player) look(s state) bool {
	in := p.code[s.inst]
	next := s.inst + 1
	switch in.Op {
	case api.Split:
		p.wait(s, in.Y)
		p.wait(s, in.X)
	case api.Jump:
		p.wait(s, in.X)
	case api.Mark:
		s.marks[in.X] = s.position
		p.wait(s, next)
	case api.Again:
		if s.marks[in.Y] != s.position {
			p.wait(s, in.X)
		}
	case api.Open:
		s.noted[in.X] = s.position
		p.wait(s, next)
	case api.Close:
		s.closeGroup(in.X)
		p.wait(s, next)
	case api.Sub:
		p.playSub(s, in)
	case api.Done, api.Match:
		return true
	default:
		p.compare(s, in)
	}
	return false
}

// compare does an instruction that asks something of the text.
func (p *player) compare(s state, in api.Inst) {
	length := 0
	fits := false
	switch in.Op {
	case api.One:
		length = 1
		fits = p.hasOne(s.position, in.Set)
	case api.Back:
		length = s.places[2*in.X+1] - s.places[2*in.X]
		fits = s.places[2*in.X] != nowhere && p.hasAgain(s.position, s.places[2*in.X], length)
	case api.Head:
		fits = s.position == 0
	case api.Tail:
		fits = s.position == len(p.text)
	}
	if fits {
		s.position += length
		p.wait(s, s.inst+1)
	}
}

// hasOne tells whether the text has a byte of a set at a position.
func (p *player) hasOne(position int, set string) bool {
	if position >= len(p.text) {
		return false
	}
	for i := 0; i < len(set); i++ {
		if set[i] == p.text[position] {
			return true
		}
	}
	return false
}

// hasAgain tells whether the text has at a position the same bytes as at an earlier one, so many of them.
func (p *player) hasAgain(position int, earlier int, length int) bool {
	if length > len(p.text)-position {
		return false
	}
	for i := 0; i < length; i++ {
		if p.text[position+i] != p.text[earlier+i] {
			return false
		}
	}
	return true
}

// playSub plays a run of its own and lets wait what comes of it.
func (p *player) playSub(s state, in api.Inst) {
	first := s
	first.inst = s.inst + 1
	end, done := p.run(first)
	switch in.X {
	case api.Atomic:
		if done {
			p.wait(end, in.Y)
		}
	case api.Ahead:
		if done {
			s.places = end.places
			s.noted = end.noted
			p.wait(s, in.Y)
		}
	case api.Never:
		if !done {
			p.wait(s, in.Y)
		}
	}
}
