package machine

import "matcher/api"

// nowhere stands where there is no position.
const nowhere = -1

// maxMarks: the atom in the innermost group may be repeated, and each group around it too.
const maxMarks = api.MaxNest + 1

// state is what a try has come to.
type state struct {
	inst     int // the number of the instruction that is to be done
	position int
	places   [2 * (api.MaxGroups + 1)]int // of group k from [2k] to [2k+1]; 0 is no group
	noted    [api.MaxGroups + 1]int
	marks    [maxMarks]int
}

// firstState is the state with which a run from a position begins.
func firstState(start int) state {
	s := state{position: start}
	for i := range s.places {
		s.places[i] = nowhere
	}
	for i := range s.marks {
		s.marks[i] = nowhere
	}
	return s
}

// closeGroup gives a group its place, which ends at the position.
func (s *state) closeGroup(group int) {
	s.places[2*group] = s.noted[group]
	s.places[2*group+1] = s.position
}
