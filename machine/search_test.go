package machine

import (
	"testing"

	"matcher/api"
)

// places gives the match and the groups that are told, -1 and -1 for all others.
func places(told ...int) [20]int {
	at := [20]int{}
	for i := range at {
		at[i] = -1
	}
	copy(at[:], told)
	return at
}

func TestSearch(t *testing.T) {
	a, b, done, match := api.Inst{Op: api.One, Set: "a"}, api.Inst{Op: api.One, Set: "b"}, api.Inst{Op: api.Done}, api.Inst{Op: api.Match}
	for _, c := range []struct {
		name string
		code []api.Inst
		text string
		from int
		want api.Found
	}{
		{"Match alone", []api.Inst{match}, "", 0, api.Found{Ok: true, At: places(0, 0), Steps: 1}},
		{"a later START", []api.Inst{a, match}, "bba", 0, api.Found{Ok: true, At: places(2, 3), Steps: 4}},
		{"from behind the match", []api.Inst{a, match}, "abb", 1, api.Found{At: places(), Steps: 3}},
		{"One of several", []api.Inst{{Op: api.One, Set: "ab\xff"}, {Op: api.One, Set: "ab\xff"}, {Op: api.One, Set: "ab\xff"}, match}, "\xffba", 0, api.Found{Ok: true, At: places(0, 3), Steps: 4}},
		{"One of none", []api.Inst{{Op: api.One}, match}, "a\x00", 0, api.Found{At: places(), Steps: 3}},
		{"Split to X first", []api.Inst{{Op: api.Split, X: 1, Y: 2}, a, match}, "a", 0, api.Found{Ok: true, At: places(0, 1), Steps: 3}},
		{"Split to Y then", []api.Inst{{Op: api.Split, X: 1, Y: 2}, a, match}, "b", 0, api.Found{Ok: true, At: places(0, 0), Steps: 3}},
		{"Jump", []api.Inst{{Op: api.Jump, X: 2}, b, match}, "a", 0, api.Found{Ok: true, At: places(0, 0), Steps: 2}},
		{"Again goes on", []api.Inst{{Op: api.Split, X: 1, Y: 4}, {Op: api.Mark}, a, {Op: api.Again}, match}, "a", 0, api.Found{Ok: true, At: places(0, 1), Steps: 8}},
		{"Again ends", []api.Inst{{Op: api.Split, X: 1, Y: 3}, {Op: api.Mark, X: 10}, {Op: api.Again, Y: 10}, match}, "", 0, api.Found{Ok: true, At: places(0, 0), Steps: 4}},
		{"Open and Close", []api.Inst{{Op: api.Open, X: 9}, a, {Op: api.Close, X: 9}, b, match}, "ab", 0, api.Found{Ok: true, At: places(0, 2, -1, -1, -1, -1, -1, -1, -1, -1, -1, -1, -1, -1, -1, -1, -1, -1, 0, 1), Steps: 5}},
		{"Back", []api.Inst{{Op: api.Open, X: 1}, a, {Op: api.Close, X: 1}, {Op: api.Back, X: 1}, match}, "baa", 0, api.Found{Ok: true, At: places(1, 3, 1, 2), Steps: 7}},
		{"Back without a place", []api.Inst{{Op: api.Back, X: 1}, match}, "a", 0, api.Found{At: places(), Steps: 2}},
		{"Head", []api.Inst{{Op: api.Head}, match}, "a", 1, api.Found{At: places(), Steps: 1}},
		{"Tail", []api.Inst{{Op: api.Tail}, match}, "a", 0, api.Found{Ok: true, At: places(1, 1), Steps: 3}},
		{"an atomic Sub", []api.Inst{{Op: api.Sub, X: api.Atomic, Y: 3}, a, done, b, match}, "ab", 0, api.Found{Ok: true, At: places(0, 2), Steps: 5}},
		{"an ahead Sub", []api.Inst{{Op: api.Sub, X: api.Ahead, Y: 3}, a, done, a, match}, "a", 0, api.Found{Ok: true, At: places(0, 1), Steps: 5}},
		{"a never Sub", []api.Inst{{Op: api.Sub, X: api.Never, Y: 3}, a, done, b, match}, "ab", 0, api.Found{Ok: true, At: places(1, 2), Steps: 7}},
	} {
		if got, e := Search(Task{Code: c.code, Text: c.text}, c.from, c.want.Steps); e != api.OK || got != c.want {
			t.Errorf("%s: %v, %d, want %v", c.name, got, e, c.want)
		}
		if got, e := Search(Task{Code: c.code, Text: c.text}, c.from, c.want.Steps-1); e != api.ErrBudget || got != (api.Found{}) {
			t.Errorf("%s, a step too few: %v, %d", c.name, got, e)
		}
	}
}
