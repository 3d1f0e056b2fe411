package machine

import "matcher/code"

// table tells which states were looked at before, as far as they are chosen and there was room for them.
type table struct {
	positions int    // of the text
	loops     []int  // in how many loops each instruction stands
	slots     []int  // where the slots of each instruction begin, nowhere if it is not chosen
	held      []bool // of each slot whether its state was put in; states that are alike have one slot
	room      int    // how many states may still be put in
}

// newTable gives an empty table.
func newTable(t Task) table {
	positions := len(t.Text) + 1
	loops := code.Loops(t.Code)
	slots := make([]int, len(t.Code))
	for i := range slots {
		slots[i] = nowhere
	}
	size := 0
	for _, inst := range t.Chosen {
		slots[inst] = size
		// None of its marks may be equal to the position, or one, and so on up to all.
		size += positions * (loops[inst] + 1)
	}
	return table{positions: positions, loops: loops, slots: slots, held: make([]bool, size), room: t.Room}
}

// ends tells whether a state that is looked at is dead because one alike is here, and puts it in if it is not.
func (t *table) ends(s state) bool {
	if t.slots[s.inst] == nowhere {
		return false
	}
	slot := t.slotOf(s)
	if t.held[slot] {
		return true
	}
	if t.room > 0 {
		t.held[slot] = true
		t.room--
	}
	return false
}

// slotOf gives the slot of a state whose instruction is chosen.
func (t *table) slotOf(s state) int {
	equal := 0
	for i := 0; i < t.loops[s.inst]; i++ {
		if s.marks[i] == s.position {
			equal++
		}
	}
	return t.slots[s.inst] + equal*t.positions + s.position
}
