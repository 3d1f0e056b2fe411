package matcher

import (
	"math/rand"
	"strings"
	"testing"

	"matcher/api"
)

// The model of the steps of a search, for ASCII patterns: a try calls itself, so that nothing has to wait, and it plays the model's code.
type tries struct {
	list        []api.Inst
	text        string
	steps, most int
	chosen      map[int]int // of each that is chosen in how many loops it stands
	table       map[alike]bool
	room        int
}

type tried struct {
	at, position int
	places       [20]int
	noted, marks [12]int
}

// to gives a state the same but at another instruction.
func (s tried) to(at int) tried {
	s.at = at
	return s
}

// from gives the state that comes to Done or Match first, or nil.
func (m *tries) from(s tried) *tried {
	if m.steps > m.most {
		return nil
	}
	m.steps++
	if m.known(s) {
		return nil
	}
	in, next := m.list[s.at], s.to(s.at+1)
	rest := m.text[s.position:]
	switch in.Op {
	case api.Done, api.Match:
		return &s
	case api.One:
		if rest == "" || !strings.Contains(in.Set, rest[:1]) {
			return nil
		}
		next.position++
	case api.Split:
		if end := m.from(s.to(in.X)); end != nil {
			return end
		}
		return m.from(s.to(in.Y))
	case api.Jump:
		return m.from(s.to(in.X))
	case api.Mark:
		next.marks[in.X] = s.position
	case api.Again:
		if s.marks[in.Y] == s.position {
			return nil
		}
		return m.from(s.to(in.X))
	case api.Open:
		next.noted[in.X] = s.position
	case api.Close:
		next.places[2*in.X], next.places[2*in.X+1] = s.noted[in.X], s.position
	case api.Back:
		if s.places[2*in.X] < 0 {
			return nil
		}
		bytes := m.text[s.places[2*in.X]:s.places[2*in.X+1]]
		if !strings.HasPrefix(rest, bytes) {
			return nil
		}
		next.position += len(bytes)
	case api.Head:
		if s.position > 0 {
			return nil
		}
	case api.Tail:
		if rest != "" {
			return nil
		}
	case api.Sub:
		end := m.from(next)
		if (end == nil) != (in.X == api.Never) {
			return nil
		}
		switch in.X {
		case api.Atomic:
			return m.from(end.to(in.Y))
		case api.Ahead:
			end.position, end.marks = s.position, s.marks
			return m.from(end.to(in.Y))
		}
		return m.from(s.to(in.Y))
	}
	return m.from(next)
}

// nowhere has no place at all.
func nowhere() [20]int {
	at := [20]int{}
	for i := range at {
		at[i] = -1
	}
	return at
}

func modelFind(list []api.Inst, text string, from int, o api.Options) (api.Found, api.Errno) {
	m := tries{list: list, text: text, most: o.Budget, chosen: map[int]int{}, table: map[alike]bool{}, room: o.Room}
	for _, at := range modelChosen(list, o.Policy, o.Mask) {
		m.chosen[at] = modelLoops(list, at)
	}
	for start := from; start <= len(text); start++ {
		end := m.from(tried{position: start, places: nowhere()})
		if m.steps > o.Budget {
			return api.Found{}, api.ErrBudget
		}
		if end != nil {
			end.places[0], end.places[1] = start, end.position
			return api.Found{Ok: true, At: end.places, Steps: m.steps}, api.OK
		}
	}
	return api.Found{At: nowhere(), Steps: m.steps}, api.OK
}

// The model of what is found, as P7 says it, for ASCII patterns: a part of a pattern is what gives its outcomes, all of them.
type outcome struct {
	position int
	places   [20]int
}

type part func(outcome) []outcome

type meaning struct {
	rest, text string
	groups     int
	left       int // how many outcomes may still be made
}

// counted lets no more outcomes by than there may be.
func (m *meaning) counted(l []outcome) []outcome {
	m.left -= len(l) + 1
	if m.left < 0 {
		return nil
	}
	return l
}

func (m *meaning) alternatives() part {
	all := []part{m.sequence()}
	for strings.HasPrefix(m.rest, "|") {
		m.rest = m.rest[1:]
		all = append(all, m.sequence())
	}
	return func(o outcome) []outcome {
		l := []outcome{}
		for _, one := range all {
			l = append(l, one(o)...)
		}
		return m.counted(l)
	}
}

// both is the sequence of two parts.
func (m *meaning) both(x part, y part) part {
	return func(o outcome) []outcome {
		l := []outcome{}
		for _, behind := range x(o) {
			l = append(l, y(behind)...)
		}
		return m.counted(l)
	}
}

func itself(o outcome) []outcome { return []outcome{o} }

func (m *meaning) sequence() part {
	if m.rest == "" || m.rest[0] == '|' || m.rest[0] == ')' {
		return itself
	}
	x := m.atom()
	if repeat := modelRepeat.FindStringSubmatch(m.rest); repeat != nil {
		m.rest = m.rest[len(repeat[0]):]
		least, most := modelCount(repeat)
		x = m.repeated(x, least, most, repeat[4] == "?")
		if repeat[4] == "+" {
			x = first(x)
		}
	}
	return m.both(x, m.sequence())
}

func (m *meaning) repeated(x part, least int, most int, lazy bool) part {
	if most == 0 {
		return itself
	}
	if least > 0 {
		return m.both(x, m.repeated(x, least-1, max(most-1, -1), lazy))
	}
	return func(o outcome) []outcome {
		l := []outcome{}
		if most > 0 {
			l = m.both(x, m.repeated(x, 0, most-1, lazy))(o)
		} else {
			for _, behind := range m.counted(x(o)) {
				if behind.position != o.position {
					l = append(l, m.repeated(x, 0, -1, lazy)(behind)...)
				}
			}
		}
		if lazy {
			return m.counted(append([]outcome{o}, l...))
		}
		return m.counted(append(l, o))
	}
}

// first gives of the outcomes the first alone.
func first(x part) part {
	return func(o outcome) []outcome {
		l := x(o)
		return l[:min(len(l), 1)]
	}
}

func (m *meaning) atom() part {
	s, _ := modelToken(m.rest)
	m.rest = m.rest[len(s):]
	switch {
	case s[0] == '(':
		return m.group(s)
	case s == "^":
		return func(o outcome) []outcome { return m.when(o.position == 0, o) }
	case s == "$":
		return func(o outcome) []outcome { return m.when(o.position == len(m.text), o) }
	case s[0] == '\\' && s[1] >= '1' && s[1] <= '9':
		k := int(s[1] - '0')
		return func(o outcome) []outcome {
			if o.places[2*k] < 0 {
				return nil
			}
			bytes := m.text[o.places[2*k]:o.places[2*k+1]]
			has := strings.HasPrefix(m.text[o.position:], bytes)
			o.position += len(bytes)
			return m.when(has, o)
		}
	}
	set := modelSet(s)
	return func(o outcome) []outcome {
		has := o.position < len(m.text) && strings.IndexByte(set, m.text[o.position]) >= 0
		o.position++
		return m.when(has, o)
	}
}

// when gives an outcome or none.
func (m *meaning) when(has bool, o outcome) []outcome {
	if has {
		return m.counted([]outcome{o})
	}
	return m.counted(nil)
}

func (m *meaning) group(opening string) part {
	if opening == "(" {
		m.groups++
	}
	k := m.groups
	inner := m.alternatives()
	m.rest = m.rest[1:]
	switch opening {
	case "(":
		return func(o outcome) []outcome {
			l := []outcome{}
			for _, in := range inner(o) {
				in.places[2*k], in.places[2*k+1] = o.position, in.position
				l = append(l, in)
			}
			return l
		}
	case "(?>":
		return first(inner)
	case "(?=":
		return func(o outcome) []outcome {
			l := first(inner)(o)
			for i := range l {
				l[i].position = o.position
			}
			return l
		}
	case "(?!":
		return func(o outcome) []outcome { return m.when(len(inner(o)) == 0, o) }
	}
	return inner
}

// outcomeOf gives what is found, and whether that could be told with so many outcomes at most.
func outcomeOf(p string, text string, from int, most int) (api.Found, bool) {
	m := meaning{rest: p, text: text, left: most}
	whole := m.alternatives()
	for start := from; start <= len(text); start++ {
		l := whole(outcome{start, nowhere()})
		if m.left < 0 {
			return api.Found{}, false
		}
		if len(l) > 0 {
			l[0].places[0], l[0].places[1] = start, l[0].position
			return api.Found{Ok: true, At: l[0].places}, true
		}
	}
	return api.Found{At: nowhere()}, true
}

// seen counts what the searches of a test came to.
type seen struct {
	found, nothing, budget, told int
}

// compareFind compares Find with both models.
func (n *seen) compareFind(t *testing.T, p string, text string, from int) {
	t.Helper()
	none := api.Options{Budget: api.MaxBudget}
	want, wantE := modelFind(modelCode(p), text, from, none)
	got, e := Find(p, text, from, none)
	if e != wantE || got != want {
		t.Fatalf("P6: Find(%q, %q, %d) = %v, %d, want %v, %d", p, text, from, got, e, want, wantE)
	}
	if e == api.ErrBudget {
		n.budget++
		return
	}
	expectBudget(t, p, text, from, none, got)
	if got.Ok {
		n.found++
	} else {
		n.nothing++
	}
	meant, told := outcomeOf(p, text, from, 3000)
	if !told {
		return
	}
	n.told++
	o := api.Options{Policy: n.told % 5, Mask: api.MaxMask / 5, Room: n.told % 50, Budget: api.MaxBudget}
	found, e := Find(p, text, from, o)
	if e != api.OK || found.Ok != meant.Ok || found.At != meant.At {
		t.Fatalf("P7: Find(%q, %q, %d, %+v) = %v, %d, want %v", p, text, from, o, found, e, meant)
	}
}

// findable makes up patterns of what often stands in the texts of these tests.
func (m maker) findable(depth int) string {
	s := ""
	for m.Intn(4) > 0 && len(s) < 30 {
		atom := m.of("a", "b", "a", "b", ".", "[ab]", "^", "$", `\1`, `\1`, `\2`)
		if depth > 0 && m.Intn(2) == 0 {
			atom = m.of("(", "(", "(?:", "(?>", "(?=", "(?!") + m.findable(depth-1) + ")"
		}
		s += atom
		if m.Intn(2) == 0 {
			s += m.of("*", "*", "+", "?", "{2}", "{0}", "{1,2}", "{0,3}", "{2,}") + m.of("", "", "?", "+")
		}
		if m.Intn(5) == 0 {
			s += "|"
		}
	}
	return s
}

func TestP6P7MadeUpSearches(t *testing.T) {
	m := maker{rand.New(rand.NewSource(3))}
	n := seen{}
	for i := 0; i < 25000; i++ {
		p := m.of("", "", "(a|b)(b|)", "(a*)") + m.findable(m.Intn(4))
		if m.Intn(10) == 0 {
			p = "(?:" + p + "|a|b)*[^abc]"
		}
		if e, _ := Check(p); e != api.OK {
			continue
		}
		text := ""
		for m.Intn(6) > 0 && len(text) <= api.MaxText-4 {
			text += m.of("a", "b", "a", "b", "c", "aa", "abab")
		}
		n.compareFind(t, p, text, 0)
		n.compareFind(t, p, text, m.Intn(len(text)+1))
	}
	if n.found < 10000 || n.nothing < 5000 || n.budget < 100 || n.told < 10000 {
		t.Errorf("too few searches of a sort were made up: %+v", n)
	}
}

func TestP6P7EveryShortPattern(t *testing.T) {
	n := seen{}
	var all func(before string, left int)
	all = func(before string, left int) {
		if e, _ := Check(before); e == api.OK {
			for _, text := range []string{"", "a", "ba", "aab", "abab"} {
				n.compareFind(t, before, text, 0)
			}
		}
		for _, part := range []string{"a", "b", "(", "(?>", "(?=", "(?!", ")", "|", "*", "*?", "??", "{2}", "{1,2}+", "$", `\1`} {
			if left > 0 {
				all(before+part, left-1)
			}
		}
	}
	all("", 5)
	if n.found < 10000 || n.nothing < 10000 || n.told < 20000 {
		t.Errorf("too few searches of a sort: %+v", n)
	}
}
