package code

import (
	"slices"
	"testing"

	"matcher/api"
)

func TestChosen(t *testing.T) {
	for _, c := range []struct {
		pattern      string
		policy, mask int
		want         []int
	}{
		{"(?:a|a)(?:a|a)b", api.None, api.MaxMask, nil}, {"(?:a|a)(?:a|a)b", api.Every, 0, []int{0, 1, 2, 3, 4, 5, 6, 7, 8, 9}}, {"(?:a|a)(?:a|a)b", api.Joins, 0, []int{4, 8}}, {"(?:a|a)(?:a|a)b", api.Masked, 1 << 9, []int{9}},
		{"a*b*", api.Heads, 0, []int{0, 4}}, {"(?:)?", api.Joins, 0, nil}, {"(?:){0,2}", api.Joins, 0, []int{2}}, {`a*(b)\1`, api.Every, 0, nil}, {"(?>a(?=b)c)d", api.Every, 0, []int{0, 7, 8}}, {"(?>a)?b", api.Joins, 0, []int{4}}, {"(?>a)b", api.Joins, 0, nil},
		{"(?:a{20}){2}", api.Masked, 1<<8 | 1<<31, []int{8, 31, 40}},
	} {
		if got := Chosen(laid(t, c.pattern), c.policy, c.mask); !slices.Equal(got, c.want) {
			t.Errorf("of %q with the policy %d and the mask %d are chosen %v, want %v", c.pattern, c.policy, c.mask, got, c.want)
		}
	}
}

func TestLoops(t *testing.T) {
	for pattern, want := range map[string][]int{
		"": {0}, "a*": {0, 0, 1, 1, 0}, "(?:a*b)*?": {0, 0, 1, 1, 2, 2, 1, 1, 0}, "a*b+": {0, 0, 1, 1, 0, 0, 0, 1, 1, 0}, "(?:a{2,3})*": {0, 0, 1, 1, 1, 1, 1, 0}, "a*+": {0, 0, 0, 1, 1, 0, 0},
	} {
		if got := Loops(laid(t, pattern)); !slices.Equal(got, want) {
			t.Errorf("the loops of %q are %v, want %v", pattern, got, want)
		}
	}
}
