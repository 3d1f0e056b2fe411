package matcher

import (
	"math/rand"
	"slices"
	"testing"

	"matcher/api"
)

// The model of the table, for ASCII patterns: as the document says it, with maps.

// alike is what states that are alike have in common.
type alike struct {
	at, position, equal int
}

// known tells whether a state alike stands in the table, and else puts this one in.
func (m *tries) known(s tried) bool {
	loops, chosen := m.chosen[s.at]
	if !chosen {
		return false
	}
	a := alike{at: s.at, position: s.position}
	for _, mark := range s.marks[:loops] {
		if mark == s.position {
			a.equal++
		}
	}
	if m.table[a] {
		return true
	}
	if len(m.table) < m.room {
		m.table[a] = true
	}
	return false
}

// modelLeads tells whether one instruction leads to another.
func modelLeads(in api.Inst, at int, to int) bool {
	switch in.Op {
	case api.Split:
		return in.X == to || in.Y == to
	case api.Jump, api.Again:
		return in.X == to
	case api.Sub:
		return in.Y == to
	case api.Done, api.Match:
		return false
	}
	return at+1 == to
}

func modelChosen(list []api.Inst, policy int, mask int) []int {
	chosen := []int{}
	for at := range list {
		heads, leads, out := 0, 0, true
		for other, in := range list {
			if in.Op == api.Again && in.X == at {
				heads++
			}
			if modelLeads(in, other, at) {
				leads++
			}
			if in.Op == api.Back || in.Op == api.Sub && other < at && at < in.Y {
				out = false
			}
		}
		bit := uint32(mask)&(uint32(1)<<uint(at&31)) != 0
		if out && [5]bool{false, true, heads > 0, leads > 1, bit}[policy] {
			chosen = append(chosen, at)
		}
	}
	return chosen
}

func modelAll(list []api.Inst, text string, o api.Options) ([]api.Found, int, api.Errno) {
	all, steps := []api.Found{}, 0
	for from := 0; from <= len(text); {
		found, e := modelFind(list, text, from, o)
		steps += found.Steps
		if e != api.OK || steps > o.Budget {
			return nil, 0, api.ErrBudget
		}
		if !found.Ok {
			break
		}
		all = append(all, found)
		from = max(found.At[1], found.At[0]+1)
	}
	return all, steps, api.OK
}

// compareChosen compares Chosen with the model, for all policies.
func compareChosen(t *testing.T, p string, mask int) {
	t.Helper()
	list := modelCode(p)
	for policy := api.None; policy <= api.Masked; policy++ {
		want := modelChosen(list, policy, mask)
		if got, e := Chosen(p, policy, mask); e != api.OK || !slices.Equal(got, want) {
			t.Fatalf("P8: Chosen(%q, %d, %d) = %v, %d, want %v", p, policy, mask, got, e, want)
		}
	}
}

// spared counts what the searches of a test came to.
type spared struct {
	alone, same, fewer, bounded, all, several, many int
}

// compareTable compares Find with the model, in tables of ever more room, and with what is found without a table.
func (n *spared) compareTable(t *testing.T, p string, text string, from int, o api.Options, rooms []int) {
	t.Helper()
	list := modelCode(p)
	plain, plainE := Find(p, text, from, api.Options{Budget: api.MaxBudget})
	last, lastE := plain, plainE
	for _, o.Room = range rooms {
		want, wantE := modelFind(list, text, from, o)
		got, e := Find(p, text, from, o)
		if e != wantE || got != want {
			t.Fatalf("P6: Find(%q, %q, %d, %+v) = %v, %d, want %v, %d", p, text, from, o, got, e, want, wantE)
		}
		if lastE == api.OK && (e != api.OK || got.Ok != last.Ok || got.At != last.At || got.Steps > last.Steps) {
			t.Fatalf("P9: Find(%q, %q, %d, %+v) = %v, %d, and with less room or none %v", p, text, from, o, got, e, last)
		}
		if e == api.OK {
			expectBudget(t, p, text, from, o, got)
		}
		switch {
		case e == api.OK && lastE != api.OK:
			n.alone++
		case got.Steps < last.Steps:
			n.fewer++
		case e == api.OK:
			n.same++
		}
		last, lastE = got, e
	}
	if plainE == api.OK {
		return
	}
	if meant, told := outcomeOf(p, text, from, 3000); told && lastE == api.OK && (last.Ok != meant.Ok || last.At != meant.At) {
		t.Fatalf("P7: Find(%q, %q, %d, %+v) = %v, want %v", p, text, from, o, last, meant)
	}
}

// compareBound asks for no more steps than P10 lets by.
func (n *spared) compareBound(t *testing.T, p string, text string, from int) {
	t.Helper()
	list := modelCode(p)
	for _, in := range list {
		if in.Op == api.Back || in.Op == api.Sub {
			return
		}
	}
	bound := (len(text) + 1) * (2*modelWeight(list) + 1)
	if bound > api.MaxBudget {
		return
	}
	n.bounded++
	got, e := Find(p, text, from, api.Options{Policy: api.Every, Room: api.MaxRoom, Budget: bound})
	if e != api.OK || got.Steps > bound {
		t.Fatalf("P10: Find(%q, %q, %d) = %v, %d, want at most %d steps", p, text, from, got, e, bound)
	}
}

// compareAll compares FindAll with the model, and tries a budget of just the steps of all searches and one of a step less.
func (n *spared) compareAll(t *testing.T, p string, text string, o api.Options) {
	t.Helper()
	want, wantSteps, wantE := modelAll(modelCode(p), text, o)
	got, steps, e := FindAll(p, text, o)
	if e != wantE || steps != wantSteps || !slices.Equal(got, want) {
		t.Fatalf("P11: FindAll(%q, %q, %+v) = %v, %d, %d, want %v, %d, %d", p, text, o, got, steps, e, want, wantSteps, wantE)
	}
	if e != api.OK {
		n.many++
		return
	}
	n.all++
	if len(got) > 1 {
		n.several++
	}
	expectAllBudget(t, p, text, o, got, steps)
}

// looping makes up patterns with many loops and alternatives, often ones that take nothing.
func (m maker) looping(depth int) string {
	s := ""
	for i := m.Intn(3); i >= 0; i-- {
		atom := m.of("a", "b", "a", "[ab]", ".", "", "^", "$")
		if depth > 0 && m.Intn(3) > 0 {
			atom = m.of("(", "(?:", "(?:", "(?:", "(?:", "(?:", "(?>", "(?=", "(?!") + m.looping(depth-1) + m.of("", "|"+m.looping(depth-1), "|", "|a") + ")"
		}
		s += atom
		if atom != "" {
			s += m.of("", "", "*", "*", "*?", "+", "?", "{0,2}", "{2,}?", "*+")
		}
	}
	return s
}

// someText makes up a text of what the patterns of these tests let by.
func (m maker) someText() string {
	text := ""
	for m.Intn(7) > 0 && len(text) <= api.MaxText-4 {
		text += m.of("a", "b", "a", "b", "c", "aa", "abab")
	}
	return text
}

func TestP8P9P10P11MadeUpSearches(t *testing.T) {
	m := maker{rand.New(rand.NewSource(4))}
	n := spared{}
	for i := 0; i < 6000; i++ {
		p := m.looping(m.Intn(5)) + m.of("", "b", "c", "$")
		if m.Intn(3) == 0 {
			p = "(?:" + p + m.of("|a|b)*", "|a|b)+?", "|a)*b") + m.of("c", "c$", "[^abc]")
		}
		if i%10 == 0 {
			p = m.findable(m.Intn(4))
		}
		if e, _ := Check(p); e != api.OK {
			continue
		}
		text := m.someText()
		o := api.Options{Policy: m.Intn(5), Mask: m.Intn(api.MaxMask + 1), Budget: api.MaxBudget}
		compareChosen(t, p, o.Mask)
		from := m.Intn(len(text)+1) * m.Intn(2)
		n.compareTable(t, p, text, from, o, []int{0, 1, 2 + m.Intn(10), 20 + m.Intn(200), api.MaxRoom})
		n.compareBound(t, p, text, from)
		o.Room = []int{0, 1 + m.Intn(10), 10 + m.Intn(200), api.MaxRoom}[m.Intn(4)]
		n.compareAll(t, p, text, o)
	}
	if n.alone < 50 || n.same < 5000 || n.fewer < 1000 || n.bounded < 2000 || n.all < 3000 || n.several < 1000 || n.many < 50 {
		t.Errorf("too few searches of a sort were made up: %+v", n)
	}
}
