package matcher

import (
	"slices"
	"strconv"
	"strings"
	"testing"

	"matcher/api"
)

// match is one of the matches of FindAll: its places and the steps of its own search.
type match struct {
	places string
	steps  int
}

// expectAllBudget tries a budget of just the steps of all searches and one of a step less.
func expectAllBudget(t *testing.T, pattern string, text string, o api.Options, all []api.Found, steps int) {
	t.Helper()
	o.Budget = steps
	if got, n, e := FindAll(pattern, text, o); e != api.OK || n != steps || !slices.Equal(got, all) {
		t.Errorf("P11: FindAll(%q, %q, %+v) with just enough steps = %v, %d, %d, want %v", pattern, text, o, got, n, e, all)
	}
	o.Budget--
	if got, n, e := FindAll(pattern, text, o); e != api.ErrBudget || n != 0 || len(got) != 0 {
		t.Errorf("P11: FindAll(%q, %q, %+v) with a step too few = %v, %d, %d, want ErrBudget", pattern, text, o, got, n, e)
	}
}

// expectAll compares what FindAll answers; last is what the search takes that finds nothing.
func expectAll(t *testing.T, pattern string, text string, o api.Options, last int, matches []match) {
	t.Helper()
	want, steps := []api.Found{}, last
	for _, m := range matches {
		want = append(want, api.Found{Ok: true, At: placed(t, m.places), Steps: m.steps})
		steps += m.steps
	}
	o.Budget = api.MaxBudget
	got, n, e := FindAll(pattern, text, o)
	if e != api.OK || n != steps || !slices.Equal(got, want) {
		t.Errorf("P11: FindAll(%q, %q, %+v) = %v, %d, %d, want %v, %d", pattern, text, o, got, n, e, want, steps)
		return
	}
	expectAllBudget(t, pattern, text, o, want, steps)
}

func TestP11Lists(t *testing.T) {
	none := api.Options{}
	expectAll(t, "a*", "aab", none, 0, []match{{"0-2", 12}, {"2-2", 4}, {"3-3", 4}})
	expectAll(t, "a", "banana", none, 1, []match{{"1-2", 3}, {"3-4", 3}, {"5-6", 3}})
	expectAll(t, "a", "bananas", none, 2, []match{{"1-2", 3}, {"3-4", 3}, {"5-6", 3}})
	expectAll(t, "x", "", none, 1, nil)
	expectAll(t, "x", "abc", none, 4, nil)
	expectAll(t, ".", "abc", none, 1, []match{{"0-1", 2}, {"1-2", 2}, {"2-3", 2}})
	expectAll(t, "ab", "ababab", none, 1, []match{{"0-2", 3}, {"2-4", 3}, {"4-6", 3}})
	expectAll(t, "aa", "aaaaa", none, 3, []match{{"0-2", 3}, {"2-4", 3}})
	expectAll(t, "^a", "aa", none, 2, []match{{"0-1", 3}})
	expectAll(t, "(a)|b", "ab", none, 4, []match{{"0-1 0-1", 6}, {"1-2", 5}})
	expectAll(t, `(.)\1`, "aabbc", none, 4+2, []match{{"0-2 0-1", 5}, {"2-4 2-3", 5}})
}

func TestP11MatchesThatTakeNothing(t *testing.T) {
	none := api.Options{}
	expectAll(t, "", "", none, 0, []match{{"0-0", 1}})
	expectAll(t, "", "ab", none, 0, []match{{"0-0", 1}, {"1-1", 1}, {"2-2", 1}})
	expectAll(t, "", "ä", none, 0, []match{{"0-0", 1}, {"1-1", 1}, {"2-2", 1}})
	expectAll(t, "b*?", "bb", none, 0, []match{{"0-0", 2}, {"1-1", 2}, {"2-2", 2}})
	expectAll(t, "a?", "a", none, 0, []match{{"0-1", 3}, {"1-1", 3}})
	expectAll(t, "a|", "ba", none, 0, []match{{"0-0", 3}, {"1-2", 4}, {"2-2", 3}})
	expectAll(t, "(?=a)", "aab", none, 2+2, []match{{"0-0", 4}, {"1-1", 4}})
	expectAll(t, "(?=(aa))", "aaa", none, 4+3, []match{{"0-0 0-2", 7}, {"1-1 1-3", 7}})
	expectAll(t, "^", "ab", none, 1+1, []match{{"0-0", 2}})
	expectAll(t, "$", "ab", none, 0, []match{{"2-2", 4}})
	expectAll(t, "b|$", "ab", none, 0, []match{{"1-2", 3 + 4}, {"2-2", 4}})
	every := []match{}
	for i := 0; i <= api.MaxText; i++ {
		every = append(every, match{strconv.Itoa(i) + "-" + strconv.Itoa(i), 1})
	}
	expectAll(t, "", strings.Repeat("a", api.MaxText), none, 0, every)
}

func TestP11Tables(t *testing.T) {
	// The code: 0 Split 1 7, 1 Split 2 5, 2 Mark, 3 a, 4 Again, 5 b, 6 Jump 8, 7 a, 8 Match. Each search looks at heads behind its match, and the next search at the same ones again.
	for _, o := range []api.Options{{}, {Policy: api.Heads, Room: api.MaxRoom}, {Policy: api.Every, Room: api.MaxRoom}} {
		expectAll(t, "a*b|a", "aaa", o, 6, []match{{"0-1", 22}, {"1-2", 17}, {"2-3", 12}})
	}
	// Likewise with c at 7. The runs of a search take 16, 11 and 7 steps, the latter two 3 and 4 where the head is known; each search has all of its room.
	expectAll(t, "a*b|c", "aacaac", api.Options{}, 6, []match{{"2-3", 16 + 11 + 7}, {"5-6", 16 + 11 + 7}})
	for room, steps := range []int{16 + 11 + 7, 16 + 11 + 7, 16 + 3 + 7, 16 + 3 + 4, 16 + 3 + 4} {
		expectAll(t, "a*b|c", "aacaac", api.Options{Policy: api.Heads, Room: room}, 6, []match{{"2-3", steps}, {"5-6", steps}})
	}
}

func TestP11AsFindAnswers(t *testing.T) {
	for _, p := range append(trying, "a", "(a)(b)?", "", "a*", "$", "(?=a)", "(?:a|a)(?:a|a)b|c", `(.)\1`) {
		for _, text := range []string{"", "a", "aab", "aacaac", "abababc", "bbbb"} {
			for policy := api.None; policy <= api.Masked; policy++ {
				for _, room := range []int{0, 1, 7, api.MaxRoom} {
					o := api.Options{Policy: policy, Mask: 0x33333333, Room: room, Budget: api.MaxBudget}
					all, steps, e := FindAll(p, text, o)
					if e != api.OK {
						t.Fatalf("P11: FindAll(%q, %q, %+v): %d", p, text, o, e)
					}
					from, sum := 0, 0
					for _, one := range all {
						if want, e := Find(p, text, from, o); e != api.OK || one != want || !one.Ok {
							t.Errorf("P11: FindAll(%q, %q, %+v) has %v, and Find from %d answers %v, %d", p, text, o, one, from, want, e)
						}
						from, sum = max(one.At[1], one.At[0]+1), sum+one.Steps
					}
					if from <= len(text) {
						last, _ := Find(p, text, from, o)
						sum += last.Steps
						if last.Ok {
							t.Errorf("P11: FindAll(%q, %q, %+v) leaves out %v", p, text, o, last)
						}
					}
					if sum != steps {
						t.Errorf("P11: FindAll(%q, %q, %+v) takes %d steps, and its searches %d", p, text, o, steps, sum)
					}
				}
			}
		}
	}
}

func TestP11Errors(t *testing.T) {
	bad := api.Options{Policy: -1, Mask: -1, Room: -1, Budget: -1}
	most, more := strings.Repeat("a", api.MaxText), strings.Repeat("a", api.MaxText+1)
	for _, c := range []struct {
		pattern, text string
		o             api.Options
		want          api.Errno
	}{
		{strings.Repeat("a", 65), more, bad, api.ErrLong}, {`a\q`, more, bad, api.ErrEscape}, {"[z-a]", more, bad, api.ErrClass}, {"a{3,2}", more, bad, api.ErrCount}, {"x(?a)", more, bad, api.ErrGroup}, {`(a)\2`, more, bad, api.ErrBack}, {"a**", more, bad, api.ErrRepeat},
		{strings.Repeat("(?:", 11), more, bad, api.ErrDeep}, {strings.Repeat("()", 10), more, bad, api.ErrMany}, {")", more, bad, api.ErrClose}, {"a(b", more, bad, api.ErrOpen}, {"(?:a{20}){20}", more, bad, api.ErrBig},
		{"a", more, bad, api.ErrLong}, {"a", more, api.Options{}, api.ErrLong}, {"", more, api.Options{Budget: 100}, api.ErrLong}, {"a", most, bad, api.ErrArg}, {"a", "", api.Options{Room: -1}, api.ErrArg}, {"", "", api.Options{}, api.ErrBudget}, {"a", most, api.Options{}, api.ErrBudget},
		// Each search is within the budget, but not all together.
		{"", most, api.Options{Budget: 60}, api.ErrBudget}, {"a", "aaa", api.Options{Budget: 6}, api.ErrBudget}, {"a*", "aab", api.Options{Budget: 12}, api.ErrBudget}, {"b", "bab", api.Options{Budget: 5}, api.ErrBudget},
		{"(?:a|a)*b", most, api.Options{Budget: api.MaxBudget}, api.ErrBudget}, {"b|(?:a|a)*c", "b" + most[1:], api.Options{Budget: api.MaxBudget}, api.ErrBudget},
	} {
		if got, n, e := FindAll(c.pattern, c.text, c.o); e != c.want || n != 0 || len(got) != 0 {
			t.Errorf("P11: FindAll(%.70q, %.70q, %+v) = %v, %d, %d, want %d and nothing", c.pattern, c.text, c.o, got, n, e, c.want)
		}
	}
}

func TestP11Options(t *testing.T) {
	for _, n := range append([]int{2, 3, 5, 6, api.MaxRoom, api.MaxRoom + 1}, wildNumbers...) {
		for _, c := range []struct {
			o    api.Options
			most int
		}{
			{api.Options{Policy: n, Budget: 6}, api.Masked}, {api.Options{Mask: n, Budget: 6}, api.MaxMask}, {api.Options{Room: n, Budget: 6}, api.MaxRoom}, {api.Options{Budget: n}, api.MaxBudget},
			{api.Options{Policy: api.Masked, Mask: api.MaxMask, Room: n, Budget: api.MaxBudget}, api.MaxRoom}, {api.Options{Policy: api.Joins, Mask: n, Room: api.MaxRoom, Budget: api.MaxBudget}, api.MaxMask},
		} {
			want := api.OK
			if c.o.Budget < 6 {
				want = api.ErrBudget
			}
			if n < 0 || n > c.most {
				want = api.ErrArg
			}
			// 3 steps to the match, and 3 of the search behind it.
			got, steps, e := FindAll("a", "babb", c.o)
			if e != want || e != api.OK && (len(got) != 0 || steps != 0) || e == api.OK && (len(got) != 1 || steps != 6) {
				t.Errorf("P11: FindAll with %+v = %v, %d, %d, want %d", c.o, got, steps, e, want)
			}
		}
	}
}

func TestP1FindAllAtAllInputs(t *testing.T) {
	for _, p := range wild {
		want, _ := Check(p)
		for _, text := range wild {
			for policy := api.None - 1; policy <= api.Masked+1; policy++ {
				got, steps, e := FindAll(p, text, api.Options{Policy: policy, Mask: api.MaxMask, Room: api.MaxRoom, Budget: api.MaxBudget})
				if e != api.OK && (len(got) != 0 || steps != 0) || want != api.OK && e != want || e == api.OK && (steps < 1 || len(got) > len(text)+1) {
					t.Fatalf("P1: FindAll(%.70q, %.70q) with the policy %d = %v, %d, %d", p, text, policy, got, steps, e)
				}
			}
		}
	}
}

func TestP2FindAllIsNewMemory(t *testing.T) {
	o := api.Options{Policy: api.Every, Room: 20, Budget: 1000}
	first, _, _ := FindAll("(a)|b*", "abba", o)
	want := slices.Clone(first)
	spare := first[:cap(first)]
	for i := range spare {
		spare[i] = api.Found{Ok: true, Steps: -7}
	}
	FindAll("a|b", "abab", o)
	if again, _, e := FindAll("(a)|b*", "abba", o); e != api.OK || len(want) < 3 || !slices.Equal(again, want) {
		t.Errorf("P2: FindAll = %v, %d behind a caller that wrote, and %v before", again, e, want)
	}
}
