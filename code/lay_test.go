package code

import (
	"testing"

	"matcher/api"
	"matcher/tree"
)

// laid gives the code of a pattern that has one.
func laid(t *testing.T, pattern string) []api.Inst {
	t.Helper()
	whole, e, _ := tree.Build(pattern)
	if e != api.OK {
		t.Fatalf("%q is no pattern: %d", pattern, e)
	}
	return Lay(whole)
}

func TestLay(t *testing.T) {
	a, b, match := api.Inst{Op: api.One, Set: "a"}, api.Inst{Op: api.One, Set: "b"}, api.Inst{Op: api.Match}
	for _, c := range []struct {
		pattern string
		want    []api.Inst
		weight  int
	}{
		{"", []api.Inst{match}, 1},
		{"a|b", []api.Inst{{Op: api.Split, X: 1, Y: 3}, a, {Op: api.Jump, X: 4}, b, match}, 5},
		{`(a)\1^$`, []api.Inst{{Op: api.Open, X: 1}, a, {Op: api.Close, X: 1}, {Op: api.Back, X: 1}, {Op: api.Head}, {Op: api.Tail}, match}, 7},
		{"(?:a*b)*?", []api.Inst{{Op: api.Split, X: 8, Y: 1}, {Op: api.Mark}, {Op: api.Split, X: 3, Y: 6}, {Op: api.Mark, X: 1}, a, {Op: api.Again, X: 2, Y: 1}, b, {Op: api.Again}, match}, 17},
		{"(?!a{1,2}+)b", []api.Inst{{Op: api.Sub, X: api.Never, Y: 7}, {Op: api.Sub, X: api.Atomic, Y: 6}, a, {Op: api.Split, X: 4, Y: 5}, a, {Op: api.Done}, {Op: api.Done}, b, match}, 9},
	} {
		list := laid(t, c.pattern)
		equal := len(list) == len(c.want)
		for i := 0; equal && i < len(list); i++ {
			equal = list[i] == c.want[i]
		}
		if !equal {
			t.Errorf("the code of %q is %v, want %v", c.pattern, list, c.want)
		}
		if got := Weight(list); got != c.weight {
			t.Errorf("the weight of %q is %d, want %d", c.pattern, got, c.weight)
		}
	}
}

func TestLayIsAsLongAsSize(t *testing.T) {
	for _, p := range []string{
		"", "a", "a|b|", "(a*)b", "a{1,3}?", "a?+", "(?:(?:){20}){20}", "(?:){0,20}", "(?>(?=(?!a)))*", "(?:a{2,5}|(b)+?){3}", "((?:a{20}){20}){0}", "(?:.{20}){14}.{19}",
	} {
		whole, _, _ := tree.Build(p)
		if size := Size(whole); size != len(Lay(whole)) {
			t.Errorf("the code of %q has %d instructions, and Size tells %d", p, len(Lay(whole)), size)
		}
	}
}
