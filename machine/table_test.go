package machine

import (
	"slices"
	"testing"

	"matcher/api"
)

// loop is a loop in a loop around a byte: 0 Split, 1 Mark, 2 Split, 3 Mark, 4 a, 5 Again, 6 Again, 7 Match.
var loop = []api.Inst{{Op: api.Split, X: 1, Y: 7}, {Op: api.Mark}, {Op: api.Split, X: 3, Y: 6}, {Op: api.Mark, X: 1}, {Op: api.One, Set: "a"}, {Op: api.Again, X: 2, Y: 1}, {Op: api.Again}, {Op: api.Match}}

// at gives a state at an instruction and a position, with marks.
func at(inst int, position int, marks ...int) state {
	s := firstState(position)
	s.inst = inst
	copy(s.marks[:], marks)
	return s
}

func TestTable(t *testing.T) {
	other := at(4, 2, 1, 1)
	other.places[2], other.places[3], other.noted[1] = 0, 1, 0
	table := newTable(Task{Code: loop, Chosen: []int{0, 2, 4}, Text: "aaa", Room: 6})
	for i, c := range []struct {
		s    state
		want bool
	}{
		{at(4, 2, 0, 0), false}, {at(4, 2, 0, 0), true}, {at(4, 2, 0, 1), true}, {other, true}, {at(4, 3, 0, 0), false}, {at(4, 0, -1, -1), false},
		{at(4, 2, 0, 2), false}, {at(4, 2, 1, 2), true}, {at(4, 2, 2, 2), false}, {at(4, 2, 2, 2), true},
		// Behind the Mark of the outer loop alone, only its mark counts.
		{at(2, 2, 0, 0), false}, {at(2, 2, 0, 2), true},
		// There is no more room, but what is in the table stays.
		{at(2, 2, 2, 0), false}, {at(2, 2, 2, 0), false}, {at(0, 0), false}, {at(0, 0), false}, {at(4, 3, 1, 1), true}, {at(4, 0, -1, -1), true},
		// Never chosen.
		{at(1, 0), false}, {at(1, 0), false}, {at(7, 3), false}, {at(7, 3), false},
	} {
		if got := table.ends(c.s); got != c.want {
			t.Errorf("state %d: %v, want %v", i, got, c.want)
		}
	}
}

func TestSearchAll(t *testing.T) {
	places := func(all []api.Found) []int {
		l := []int{}
		for _, one := range all {
			l = append(l, one.At[0], one.At[1], one.Steps)
		}
		return l
	}
	task := Task{Code: loop, Chosen: []int{0, 2}, Text: "ab", Room: 9}
	// From 0: the four in, the byte and the Again; at 1 Split, Mark, the byte in vain, the outer Again, the four in again, the byte and the Again in vain; and Match.
	all, steps, e := SearchAll(task, 17+7+7)
	if want := []int{0, 1, 17, 1, 1, 7, 2, 2, 7}; e != api.OK || steps != 31 || !slices.Equal(places(all), want) {
		t.Errorf("all: %v, %d, %d, want %v", places(all), steps, e, want)
	}
	if all, steps, e := SearchAll(task, 17+7+6); e != api.ErrBudget || steps != 0 || len(all) != 0 {
		t.Errorf("all, a step too few: %v, %d, %d", all, steps, e)
	}
}
