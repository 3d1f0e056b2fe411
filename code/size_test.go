package code

import (
	"testing"

	"matcher/api"
	"matcher/tree"
)

func TestSize(t *testing.T) {
	for _, c := range []struct {
		pattern string
		want    int // with the Match at the end
	}{
		{"", 1}, {"a", 2}, {"a|b", 5}, {"(a*)b", 8}, {"a{1,3}?", 6}, {"a?+", 5}, {"(?:a|a)(?:a|a)b", 10},
		{"(?:a{20}){14}a{19}", 300}, {"(?:a{20}){15}", 301}, {"(?:a{20}){20}", 301}, {"(?:(?:(?:(?:(?:a{20}){20}){20}){20}){20}){20}", 301},
		{"(?:a{20}){20}|(?:a{20}){20}", 301}, {"((?:a{20}){20})*", 301}, {"(?:(?:a{20}){20}){0}", 1},
	} {
		read, e, _ := tree.Build(c.pattern)
		if e != api.OK {
			t.Errorf("%q is no pattern: %d", c.pattern, e)
			continue
		}
		if got := Size(read); got != c.want {
			t.Errorf("Size of %q is %d, want %d", c.pattern, got, c.want)
		}
	}
}
