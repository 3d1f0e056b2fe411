package matcher

import (
	"math/rand"
	"strings"
	"testing"

	"matcher/api"
)

// The model of Code, for ASCII patterns that Check lets by: it reads and lays in one go, and while it does so an instruction
// tells where it leads by the way from itself to there. So pieces of code can be joined and doubled as they are.
type codeModel struct {
	rest   string
	groups int
}

func modelCode(p string) []api.Inst {
	m := codeModel{rest: p}
	list := append(m.alternatives(), api.Inst{Op: api.Match})
	for i := range list {
		switch in := &list[i]; in.Op {
		case api.Split:
			in.X += i
			in.Y += i
		case api.Jump, api.Again:
			in.X += i
		case api.Sub:
			in.Y += i
		}
	}
	for i, in := range list {
		if in.Op == api.Again {
			depth := modelLoops(list, in.X+1)
			list[in.X+1].X, list[i].Y = depth, depth
		}
	}
	return list
}

// modelLoops tells how many loops an instruction stands in.
func modelLoops(list []api.Inst, number int) int {
	loops := 0
	for i, in := range list {
		if in.Op == api.Again && in.X+1 < number && number <= i {
			loops++
		}
	}
	return loops
}

func modelWeight(list []api.Inst) int {
	weight := 0
	for i := range list {
		weight += 1 + modelLoops(list, i)
	}
	return weight
}

func joined(pieces ...[]api.Inst) []api.Inst {
	list := []api.Inst{}
	for _, piece := range pieces {
		list = append(list, piece...)
	}
	return list
}

func (m *codeModel) alternatives() []api.Inst {
	first := m.sequence()
	if !strings.HasPrefix(m.rest, "|") {
		return first
	}
	m.rest = m.rest[1:]
	others := m.alternatives()
	return joined([]api.Inst{{Op: api.Split, X: 1, Y: len(first) + 2}}, first, []api.Inst{{Op: api.Jump, X: len(others) + 1}}, others)
}

func (m *codeModel) sequence() []api.Inst {
	list := []api.Inst{}
	for m.rest != "" && m.rest[0] != '|' && m.rest[0] != ')' {
		atom := m.atom()
		if repeat := modelRepeat.FindStringSubmatch(m.rest); repeat != nil {
			m.rest = m.rest[len(repeat[0]):]
			atom = modelRepeatedCode(atom, repeat)
		}
		list = append(list, atom...)
	}
	return list
}

func (m *codeModel) atom() []api.Inst {
	s, _ := modelToken(m.rest)
	m.rest = m.rest[len(s):]
	switch {
	case s == "^":
		return []api.Inst{{Op: api.Head}}
	case s == "$":
		return []api.Inst{{Op: api.Tail}}
	case s[0] == '\\' && s[1] >= '1' && s[1] <= '9':
		return []api.Inst{{Op: api.Back, X: int(s[1] - '0')}}
	case s[0] != '(':
		return []api.Inst{{Op: api.One, Set: modelSet(s)}}
	}
	if s == "(" {
		m.groups++
	}
	number := m.groups
	inner := m.alternatives()
	m.rest = m.rest[1:]
	switch s {
	case "(":
		return joined([]api.Inst{{Op: api.Open, X: number}}, inner, []api.Inst{{Op: api.Close, X: number}})
	case "(?:":
		return inner
	}
	return modelSub(strings.Index(">=!", s[2:]), inner)
}

func modelSub(sort int, inner []api.Inst) []api.Inst {
	return joined([]api.Inst{{Op: api.Sub, X: sort, Y: len(inner) + 2}}, inner, []api.Inst{{Op: api.Done}})
}

func modelRepeatedCode(atom []api.Inst, repeat []string) []api.Inst {
	least, most := modelCount(repeat)
	mood := repeat[4]
	choice := func(length int) []api.Inst {
		if mood == "?" {
			return []api.Inst{{Op: api.Split, X: length + 1, Y: 1}}
		}
		return []api.Inst{{Op: api.Split, X: 1, Y: length + 1}}
	}
	list := []api.Inst{}
	if most < 0 {
		list = joined(choice(len(atom)+2), []api.Inst{{Op: api.Mark}}, atom, []api.Inst{{Op: api.Again, X: -len(atom) - 2}})
	}
	for i := least; i < most; i++ {
		list = joined(choice(len(atom)+len(list)), atom, list)
	}
	for i := 0; i < least; i++ {
		list = joined(atom, list)
	}
	if mood == "+" {
		return modelSub(api.Atomic, list)
	}
	return list
}

// modelSet asks of each byte whether one of the token's items has it.
func modelSet(s string) string {
	if s == "." {
		return from(0, 255)
	}
	items, inverted := []string{s}, false
	if s[0] == '[' {
		inverted = s[1] == '^'
		items = modelRange.FindAllString(strings.TrimPrefix(s[1:len(s)-1], "^"), -1)
	}
	set := []byte{}
	for b := 0; b < 256; b++ {
		has := false
		for _, item := range items {
			has = has || modelItemHas(item, byte(b))
		}
		if has != inverted {
			set = append(set, byte(b))
		}
	}
	return string(set)
}

func modelItemHas(item string, b byte) bool {
	const digits, letters = "0123456789", "abcdefghijklmnopqrstuvwxyzABCDEFGHIJKLMNOPQRSTUVWXYZ"
	switch item {
	case `\d`:
		return strings.IndexByte(digits, b) >= 0
	case `\w`:
		return strings.IndexByte(digits+letters+"_", b) >= 0
	}
	first := strings.TrimPrefix(item, `\`)
	return b >= first[0] && b <= item[len(item)-1]
}

// compareCode compares Code and Weight with the model, or their errors with that of Check.
func compareCode(t *testing.T, p string) api.Errno {
	t.Helper()
	want, _ := Check(p)
	list, e := Code(p)
	weight, f := Weight(p)
	if e != want || f != want {
		t.Fatalf("P4, P5: the errors of Code(%q) and Weight are %d and %d, that of Check %d", p, e, f, want)
	}
	if want != api.OK {
		if len(list) != 0 || weight != 0 {
			t.Fatalf("P1: of %q there are %d instructions and the weight %d beside the error %d", p, len(list), weight, e)
		}
		return e
	}
	model := modelCode(p)
	if !same(list, model) {
		t.Fatalf("P4: Code(%q) = %v, want %v", p, list, model)
	}
	if own := modelWeight(model); weight != own {
		t.Fatalf("P5: Weight(%q) = %d, want %d", p, weight, own)
	}
	return e
}

func TestP4P5MadeUpPatterns(t *testing.T) {
	m := maker{rand.New(rand.NewSource(2))}
	seen := map[api.Errno]int{}
	for i := 0; i < 40000; i++ {
		p := m.of("", "", "(a)(b|)") + m.alternatives(m.Intn(5))
		seen[compareCode(t, p)]++
		seen[compareCode(t, m.spoil(p))]++
	}
	if seen[api.OK] < 20000 || seen[api.ErrBig] < 100 {
		t.Errorf("too few patterns that have a code, or too long a one, were made up: %v", seen)
	}
}

func TestP4P5EveryShortPattern(t *testing.T) {
	var all func(before string, n int)
	all = func(before string, n int) {
		compareCode(t, before)
		for _, part := range []string{"a", "(", "(?:", "(?>", ")", "|", "*", "??", "{2,3}", "{0}+", "{2,}?"} {
			if n > 0 {
				all(before+part, n-1)
			}
		}
	}
	all("", 5)
}
