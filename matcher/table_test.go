package matcher

import (
	"strings"
	"testing"

	"matcher/api"
)

// tabled is what a search takes with a table.
type tabled struct {
	policy, mask, room int
	steps              int
}

// expectTable compares what Find answers with tables; what is found is the same with all of them.
func expectTable(t *testing.T, pattern string, text string, from int, places string, cases []tabled) {
	t.Helper()
	for _, c := range cases {
		o := api.Options{Policy: c.policy, Mask: c.mask, Room: c.room, Budget: api.MaxBudget}
		want := api.Found{Ok: places != "", At: placed(t, places), Steps: c.steps}
		got, e := Find(pattern, text, from, o)
		if e != api.OK || got != want {
			t.Errorf("P6: Find(%q, %q, %d, %+v) = %v, %d, want %v", pattern, text, from, o, got, e, want)
			continue
		}
		expectBudget(t, pattern, text, from, o, got)
	}
}

func TestP6TableExamples(t *testing.T) {
	expectTable(t, "(?:a|a)(?:a|a)b", "aa", 0, "", []tabled{{api.None, 0, 100, 29}, {api.Every, 0, 100, 22}, {api.Joins, 0, 100, 22}, {api.Every, 0, 0, 29}, {api.Every, 0, api.MaxRoom, 22}, {api.Heads, 0, 100, 29}})
	expectTable(t, `(.)\1`, "abba", 0, "1-3 1-2", []tabled{{api.Every, 0, 100, 9}, {api.Masked, api.MaxMask, 100, 9}, {api.None, 0, 100, 9}})
}

func TestP6TableAndGroups(t *testing.T) {
	// The code: 0 Split 1 11, 1 Split 2 4, 2 a, 3 Jump 5, 4 a, 5 Split 6 8, 6 a, 7 Jump 9, 8 a, 9 b, 10 Jump 15, 11 Open, 12 a, 13 Close, 14 a, 15 Match.
	// What is spared is the second time at 5, with the four steps behind it and the one at 9; of all that is looked at, the first at 5 is the fifth.
	expectTable(t, "(?:a|a)(?:a|a)b|(a)a", "aa", 0, "0-2 0-1", []tabled{
		{api.None, 0, api.MaxRoom, 22}, {api.Every, 0, api.MaxRoom, 17}, {api.Every, 0, 5, 17}, {api.Every, 0, 4, 22}, {api.Every, 0, 1, 22}, {api.Every, 0, 0, 22},
		{api.Joins, 0, 1, 17}, {api.Joins, 0, 0, 22}, {api.Heads, 0, 100, 22}, {api.Masked, 1 << 5, 1, 17}, {api.Masked, 1 << 9, 100, 22}, {api.Masked, 1<<6 | 1<<8, 2, 19}, {api.Masked, 1 << 6, 100, 20}, {api.Masked, 0, 100, 22},
		{api.Every, 1, 5, 17}, {api.None, api.MaxMask, 5, 22}, {api.Masked, api.MaxMask, 5, 17},
	})
}

func TestP6TableOverAllRuns(t *testing.T) {
	// The code: 0 Split 1 4, 1 Mark, 2 a, 3 Again, 4 b. From START 0, 1, 2, 3 on it takes 19, 14, 9 and 4 steps; where the head is known, 1.
	expectTable(t, "a*b", "aaa", 0, "", []tabled{
		{api.None, 0, 100, 19 + 14 + 9 + 4}, {api.Heads, 0, 100, 19 + 1 + 1 + 1}, {api.Heads, 0, 4, 19 + 1 + 1 + 1}, {api.Heads, 0, 3, 19 + 1 + 1 + 4}, {api.Heads, 0, 2, 19 + 1 + 9 + 4}, {api.Heads, 0, 1, 19 + 14 + 9 + 4},
		{api.Every, 0, 100, 19 + 1 + 1 + 1}, {api.Masked, 1 << 4, 100, 19 + 14 + 9 + 4}, {api.Masked, 1 << 3, 100, 19 + 5 + 5 + 4}, {api.Joins, 0, 100, 19 + 14 + 9 + 4},
	})
	expectTable(t, "a*b", "aaa", 1, "", []tabled{{api.None, 0, 100, 14 + 9 + 4}, {api.Heads, 0, 100, 14 + 1 + 1}, {api.Heads, 0, 2, 14 + 1 + 4}, {api.Heads, 0, 1, 14 + 9 + 4}})
	expectTable(t, "a*b", "aab", 0, "0-3", []tabled{{api.None, 0, 100, 4 + 4 + 5}, {api.Every, 0, 100, 4 + 4 + 5}})
}

func TestP6TableAndMarks(t *testing.T) {
	// The code: 0 Split 1 8, 1 Mark, 2 Open, 3 Split 4 5, 4 Jump 6, 5 a, 6 Close, 7 Again, 8 b. At the position 1 the Close is looked at with a mark of 0, and then with one of 1.
	expectTable(t, "(|a)*b", "a", 0, "", []tabled{
		{api.None, 0, 100, 29}, {api.Every, 0, 100, 21}, {api.Heads, 0, 100, 21}, {api.Masked, 1 << 6, 100, 28}, {api.Masked, 1 << 6, 3, 28}, {api.Masked, 1 << 6, 2, 29}, {api.Masked, 1 << 6, 1, 29}, {api.Masked, 1 << 7, 100, 29}, {api.Joins, 0, 100, 28},
	})
	// The code: 0 Split 1 11, 1 Mark 0, 2 Split 3 10, 3 Mark 1, 4 Open, 5 Split 6 7, 6 Jump 8, 7 a, 8 Close, 9 Again 2 1, 10 Again 0 0, 11 b. At the position 1 the Close is looked at with none, one and both of the marks equal to it.
	expectTable(t, "(?:(|a)*)*b", "a", 0, "", []tabled{
		{api.None, 0, 100, 47}, {api.Masked, 1 << 8, 100, 46}, {api.Masked, 1 << 8, 4, 46}, {api.Masked, 1 << 8, 3, 47}, {api.Every, 0, 100, 36}, {api.Heads, 0, 100, 36}, {api.Heads, 0, 0, 47}, {api.Joins, 0, 100, 39},
	})
}

func TestP6TableAndSubRuns(t *testing.T) {
	// The code: 0 Split 1 3, 1 a, 2 Jump 4, 3 a, 4 Sub 0 7, 5 a, 6 Done, 7 b. Twice a Sub is looked at again.
	expectTable(t, "(?:a|a)(?>a)b", "aa", 0, "", []tabled{
		{api.None, 0, 100, 23}, {api.Every, 0, 100, 19}, {api.Joins, 0, 100, 19}, {api.Masked, 1 << 4, 100, 19}, {api.Masked, 1 << 4, 2, 19}, {api.Masked, 1 << 4, 1, 20}, {api.Masked, 1 << 5, 100, 23}, {api.Masked, 1 << 6, 100, 23}, {api.Masked, 1 << 7, 100, 23},
	})
	// What is looked at in a sub-run is looked at again in the next: else the never group would let by what it must not.
	for policy := api.None; policy <= api.Masked; policy++ {
		expectTable(t, "(?!(?!a))", "a", 0, "0-0", []tabled{{policy, api.MaxMask, api.MaxRoom, 5}})
		found, e := Find("(?:a|b|a)(?!b)|(?:a|b|a)(?!b)c", "ab", 0, api.Options{Policy: policy, Mask: api.MaxMask, Room: api.MaxRoom, Budget: 1000})
		if e != api.OK || !found.Ok || found.At != placed(t, "1-2") {
			t.Errorf("P9: a never group behind a choice, with the policy %d: %v, %d", policy, found, e)
		}
	}
}

func TestP6NoTableWithBack(t *testing.T) {
	for _, p := range []string{`(a|a)(a|a)\1b`, `(a*)*\1b`, `(?:(a)|\1)*b`, `(a|a)*(?!\1)b`} {
		want, e := Find(p, "aaa", 0, api.Options{Budget: api.MaxBudget})
		if e != api.OK {
			t.Fatalf("Find(%q): %d", p, e)
		}
		for policy := api.None; policy <= api.Masked; policy++ {
			o := api.Options{Policy: policy, Mask: api.MaxMask, Room: api.MaxRoom, Budget: api.MaxBudget}
			if got, e := Find(p, "aaa", 0, o); e != api.OK || got != want {
				t.Errorf("P6: Find(%q) with the policy %d = %v, %d, want %v", p, policy, got, e, want)
			}
		}
	}
}

// trying are patterns that try much and find late or never.
var trying = []string{
	"(?:a|a)*b", "(?:a|a)*?b", "(a*)*b", "(?:a*?)*?b", "(a|aa)+$|b", "((a|ab)*)c", "(?:|a)*b", "(?:a||b)+c", "(?:a|b)*abb", "(?:(?:a|b)*c?)*d", "(?:a?){10}b", "(?:a?b??){5}c", "((a)|(b))*c", "(?:(?:(?:a|a)*)*)*b", "(?:(?:(?:|a)*|b)*?)+c", "(?:a{0,3}){3}c",
	"(?=a*)a*b", "(?>a|ab)*c", "(?:(?!aab).)*c", "(?:a|(?>a))*b", "(?:(?=(a|a)*)a)*b", "a*+a*a*b", "(?:a|a)*(?!b)c", "(?:^|a)*b", "(?:a$|a)*b",
}

func TestP9SameFound(t *testing.T) {
	n := spared{}
	for _, p := range trying {
		for i, text := range []string{"", "a", "ab", "aab", "aabab", "abcabd", "aabbab", "aaaaaaab", "aaaaaaaaac", "ababababab"} {
			for policy := api.Every; policy <= api.Masked; policy++ {
				o := api.Options{Policy: policy, Mask: []int{0x55555555, 0xaaaaaaaa, 1 << 3}[i%3], Budget: api.MaxBudget}
				n.compareTable(t, p, text, 0, o, []int{0, 1, 2, 5, 20, 100, api.MaxRoom})
				n.compareTable(t, p, text, len(text)/2, o, []int{3, 9, 99})
			}
		}
	}
	if n.alone < 30 || n.fewer < 1000 {
		t.Errorf("too little was spared: %+v", n)
	}
}

func TestP9BudgetWithTable(t *testing.T) {
	text := strings.Repeat("a", api.MaxText)
	for _, c := range []struct {
		o    api.Options
		want api.Errno
	}{
		{api.Options{Budget: api.MaxBudget}, api.ErrBudget}, {api.Options{Policy: api.Every, Budget: api.MaxBudget}, api.ErrBudget}, {api.Options{Policy: api.Every, Room: 50, Budget: api.MaxBudget}, api.ErrBudget},
		{api.Options{Policy: api.Every, Room: api.MaxRoom, Budget: api.MaxBudget}, api.OK}, {api.Options{Policy: api.Heads, Room: api.MaxRoom, Budget: api.MaxBudget}, api.OK}, {api.Options{Policy: api.Joins, Room: api.MaxRoom, Budget: api.MaxBudget}, api.OK},
		{api.Options{Policy: api.Masked, Mask: 1, Room: api.MaxRoom, Budget: api.MaxBudget}, api.OK}, {api.Options{Policy: api.Masked, Mask: 1 << 8, Room: api.MaxRoom, Budget: api.MaxBudget}, api.ErrBudget},
	} {
		if got, e := Find("(?:a|a)*b", text, 0, c.o); e != c.want || got.Ok || e != api.OK && got != (api.Found{}) {
			t.Errorf("P9: Find with %+v = %v, %d, want nothing and %d", c.o, got, e, c.want)
		}
	}
}

func TestP10Bound(t *testing.T) {
	n := spared{}
	for _, p := range trying {
		for length := 0; length <= api.MaxText; length++ {
			for _, unit := range []string{"a", "ab", "aab"} {
				text := strings.Repeat(unit, api.MaxText)[:length]
				n.compareBound(t, p, text, 0)
				n.compareBound(t, p, text, length/2)
			}
		}
	}
	if n.bounded < 2000 {
		t.Errorf("only %d searches had a bound", n.bounded)
	}
}

func TestP2TableKeepsNothing(t *testing.T) {
	for _, before := range append(wild, "(?:a|a)(?:a|a)b", "a*b", "(|a)*b") {
		for _, o := range []api.Options{{}, {Policy: api.Every, Room: 3, Budget: 10}, {Policy: api.Every, Room: api.MaxRoom, Budget: api.MaxBudget}, {Policy: api.Heads, Room: api.MaxRoom, Budget: api.MaxBudget}} {
			Find(before, "aa", 0, o)
			FindAll(before, "aaa", o)
			expectTable(t, "(?:a|a)(?:a|a)b", "aa", 0, "", []tabled{{api.Every, 0, 100, 22}, {api.None, 0, 100, 29}})
			expectTable(t, "a*b", "aaa", 0, "", []tabled{{api.Heads, 0, 3, 25}})
		}
	}
}
