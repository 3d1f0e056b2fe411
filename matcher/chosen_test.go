package matcher

import (
	"math/rand"
	"slices"
	"strings"
	"testing"

	"matcher/api"
)

// chosen is a pattern with the numbers that each policy chooses; of Masked with a mask.
type chosen struct {
	pattern             string
	every, heads, joins []int
	mask                int
	masked              []int
}

// upTo gives the numbers from 0 on to the last.
func upTo(last int) []int {
	l := []int{}
	for i := 0; i <= last; i++ {
		l = append(l, i)
	}
	return l
}

func expectChosen(t *testing.T, cases []chosen) {
	t.Helper()
	for _, c := range cases {
		for policy, want := range [][]int{nil, c.every, c.heads, c.joins, c.masked} {
			if got, e := Chosen(c.pattern, policy, c.mask); e != api.OK || !slices.Equal(got, want) {
				t.Errorf("P8: Chosen(%q, %d, %d) = %v, %d, want %v", c.pattern, policy, c.mask, got, e, want)
			}
		}
	}
}

func TestP8Policies(t *testing.T) {
	expectChosen(t, []chosen{
		{"", upTo(0), nil, nil, 1, upTo(0)}, {"a", upTo(1), nil, nil, 2, []int{1}}, {"^$(a)", upTo(5), nil, nil, 0b11010, []int{1, 3, 4}},
		{"(?:a|a)(?:a|a)b", upTo(9), nil, []int{4, 8}, 0b1100000011, []int{0, 1, 8, 9}}, {"a|b|c", upTo(7), nil, []int{7}, 0, nil}, {"|", upTo(2), nil, []int{2}, 4, []int{2}},
		{"a*", upTo(4), []int{0}, nil, 0b10000, []int{4}}, {"a*?", upTo(4), []int{0}, nil, 0b01000, []int{3}}, {"(a*)b", upTo(7), []int{1}, []int{1}, 0b11, []int{0, 1}}, {"a+", upTo(5), []int{1}, []int{1}, api.MaxMask, upTo(5)},
		{"a*b*", upTo(8), []int{0, 4}, []int{4}, 1 << 9, nil}, {"(?:a*)*", upTo(7), []int{0, 2}, []int{2}, 1 << 31, nil}, {"(?:(|a)*)*b", upTo(12), []int{0, 2}, []int{2, 8}, 1 << 12, []int{12}}, {"(?:a|b)*", upTo(7), []int{0}, []int{6}, 1, []int{0}},
		{"a?", upTo(2), nil, []int{2}, 6, []int{1, 2}}, {"a??", upTo(2), nil, []int{2}, 6, []int{1, 2}}, {"a{0,2}", upTo(4), nil, []int{4}, 1 << 4, []int{4}}, {"a{1,3}?b", upTo(6), nil, []int{5}, 1 << 6, []int{6}}, {"a{2}", upTo(2), nil, nil, 1, []int{0}},
	})
}

func TestP8SplitWhoseXAndYAreOne(t *testing.T) {
	expectChosen(t, []chosen{
		{"(?:)?", upTo(1), nil, nil, 2, []int{1}}, {"(?:)??", upTo(1), nil, nil, 2, []int{1}}, {"a(?:)?b", upTo(3), nil, nil, 4, []int{2}},
		// To Match lead the first Split with its Y and the second with both.
		{"(?:){0,2}", upTo(2), nil, []int{2}, 1, []int{0}},
		{"(?:)*", upTo(3), []int{0}, nil, 8, []int{3}}, {"a(?:)*", upTo(4), []int{1}, []int{1}, 8, []int{3}},
	})
}

func TestP8Back(t *testing.T) {
	for _, p := range []string{`(a)\1`, `(a)*\1|b*`, `(a*)*(?=\1)`, `a*(?:b|(c))(?>d\1)?`, `(a)|a*(?!\1)`} {
		expectChosen(t, []chosen{{p, nil, nil, nil, api.MaxMask, nil}})
	}
	// A backreference that is repeated 0 times has no code.
	expectChosen(t, []chosen{{`(a)\1{0}`, upTo(3), nil, nil, 8, []int{3}}})
}

func TestP8SubRuns(t *testing.T) {
	expectChosen(t, []chosen{
		{"(?>a)b", []int{0, 3, 4}, nil, nil, 0b1111, []int{0, 3}}, {"(?=a)b", []int{0, 3, 4}, nil, nil, 0b110, nil}, {"(?!a)b", []int{0, 3, 4}, nil, nil, 0b10001, []int{0, 4}}, {"(?>)", []int{0, 2}, nil, nil, 7, []int{0, 2}},
		{"a*+", []int{0, 6}, nil, nil, 0b1000010, []int{6}}, {"(?>a*)a", []int{0, 6, 7}, nil, nil, 0b1011010, []int{6}}, {"a?+b*", []int{0, 4, 5, 6, 7, 8}, []int{4}, []int{4}, 0b1100, nil},
		{"(?>a(?=b)c)d", []int{0, 7, 8}, nil, nil, api.MaxMask, []int{0, 7, 8}}, {"(?!(?!(?!a)b)c)d", []int{0, 9, 10}, nil, nil, 1<<8 | 1<<9, []int{9}},
		{"(?!a)*b", []int{0, 1, 2, 5, 6, 7}, []int{0}, nil, 0b111100, []int{2, 5}}, {"(?=a?)b?", []int{0, 4, 5, 6}, nil, []int{6}, 0b1001000, []int{6}}, {"(?>)?", []int{0, 1, 3}, nil, []int{3}, 4, nil}, {"(?>a|b)?c", []int{0, 1, 7, 8}, nil, []int{7}, 0b110, []int{1}},
		{"(?>a)(?>b)", []int{0, 3, 6}, nil, nil, 0b11111, []int{0, 3}}, {"(?:(?>a*)b)*+", []int{0, 12}, nil, nil, 1, []int{0}}, {"(?:(?=a)|b)c", []int{0, 1, 4, 5, 6, 7}, nil, []int{6}, 0b1110, []int{1}},
	})
}

func TestP8Masks(t *testing.T) {
	expectChosen(t, []chosen{
		{"(?:a{20}){2}", upTo(40), nil, nil, 1, []int{0, 32}}, {"(?:a{20}){2}", upTo(40), nil, nil, 1 << 8, []int{8, 40}}, {"(?:a{20}){2}", upTo(40), nil, nil, 1 << 9, []int{9}}, {"(?:a{20}){2}", upTo(40), nil, nil, 1 << 31, []int{31}},
		{"(?:a{20}){5}", upTo(100), nil, nil, 1<<4 | 1<<31, []int{4, 31, 36, 63, 68, 95, 100}}, {"(?:a{20}){14}a{19}", upTo(299), nil, nil, api.MaxMask, upTo(299)}, {"(?:a{20}){14}a{19}", upTo(299), nil, nil, 1 << 11, []int{11, 43, 75, 107, 139, 171, 203, 235, 267, 299}},
	})
	for bit := 0; bit < 32; bit++ {
		without := []int{}
		for i := 0; i <= 60; i++ {
			if i != bit && i != bit+32 {
				without = append(without, i)
			}
		}
		expectChosen(t, []chosen{{strings.Repeat("a", 60), upTo(60), nil, nil, api.MaxMask - 1<<bit, without}})
	}
}

func TestP8Errors(t *testing.T) {
	for _, c := range []struct {
		pattern string
		want    api.Errno
	}{
		{strings.Repeat("a", 65), api.ErrLong}, {`a\q`, api.ErrEscape}, {"[z-a]", api.ErrClass}, {"a{3,2}", api.ErrCount}, {"x(?a)", api.ErrGroup}, {`(a)\2`, api.ErrBack}, {"a**", api.ErrRepeat},
		{strings.Repeat("(?:", 11), api.ErrDeep}, {strings.Repeat("()", 10), api.ErrMany}, {")", api.ErrClose}, {"a(b", api.ErrOpen}, {"(?:a{20}){20}", api.ErrBig}, {"a", api.OK}, {`(a)\1`, api.OK},
	} {
		for _, policy := range append([]int{2, 3}, wildNumbers...) {
			for _, mask := range wildNumbers {
				want := c.want
				if want == api.OK && (policy < 0 || policy > 4 || mask < 0 || mask > 4294967295) {
					want = api.ErrArg
				}
				got, e := Chosen(c.pattern, policy, mask)
				if e != want || e != api.OK && len(got) != 0 {
					t.Errorf("P8: Chosen(%.70q, %d, %d) = %v, %d, want %d", c.pattern, policy, mask, got, e, want)
				}
			}
		}
	}
}

func TestP8MadeUpPatterns(t *testing.T) {
	m := maker{rand.New(rand.NewSource(5))}
	compared := 0
	for i := 0; i < 6000; i++ {
		p := m.alternatives(m.Intn(5))
		if i%2 == 0 {
			p = m.looping(m.Intn(5))
		}
		if e, _ := Check(p); e == api.OK {
			compareChosen(t, p, m.Intn(api.MaxMask+1))
			compared++
		}
	}
	if compared < 3000 {
		t.Errorf("only %d patterns were made up", compared)
	}
}

func TestP2ChosenIsNewMemory(t *testing.T) {
	for _, policy := range []int{api.Every, api.Heads, api.Joins, api.Masked} {
		first, _ := Chosen("a(b*)c|d*", policy, 0xffff)
		want := slices.Clone(first)
		for i := range first {
			first[i] = -7
		}
		spare := first[:cap(first)]
		for i := range spare {
			spare[i] = -7
		}
		Chosen("(a|b)*", policy, 0xff)
		if again, e := Chosen("a(b*)c|d*", policy, 0xffff); e != api.OK || len(want) == 0 || !slices.Equal(again, want) {
			t.Errorf("P2: Chosen with the policy %d = %v, %d behind a caller that wrote, and %v before", policy, again, e, want)
		}
	}
}
