package matcher

import (
	"strconv"
	"strings"
	"testing"

	"matcher/api"
)

// searched is a search with the policy None and its answer.
type searched struct {
	pattern, text string
	from          int
	places        string // as "0-3 0-2": of the match and of the groups, "-" of a group that has none; "" if nothing is found
	steps         int    // 0: whatever it takes
}

// placed reads places.
func placed(t *testing.T, places string) [20]int {
	t.Helper()
	at := [20]int{}
	for i := range at {
		at[i] = -1
	}
	for k, place := range strings.Fields(places) {
		if place == "-" {
			continue
		}
		start, end, _ := strings.Cut(place, "-")
		var e1, e2 error
		at[2*k], e1 = strconv.Atoi(start)
		at[2*k+1], e2 = strconv.Atoi(end)
		if e1 != nil || e2 != nil {
			t.Fatalf("%q is no place", place)
		}
	}
	return at
}

// expectFind compares what Find answers, and tries a budget of just the steps and one of a step less.
func expectFind(t *testing.T, promise string, cases []searched) {
	t.Helper()
	for _, c := range cases {
		want := api.Found{Ok: c.places != "", At: placed(t, c.places), Steps: c.steps}
		got, e := Find(c.pattern, c.text, c.from, api.Options{Budget: api.MaxBudget})
		if c.steps == 0 {
			want.Steps = got.Steps
		}
		if e != api.OK || got != want {
			t.Errorf("%s: Find(%q, %q, %d) = %v, %d, want %v", promise, c.pattern, c.text, c.from, got, e, want)
			continue
		}
		expectBudget(t, c.pattern, c.text, c.from, api.Options{}, got)
	}
}

// expectBudget tries a budget of just the steps of a search and one of a step less.
func expectBudget(t *testing.T, pattern string, text string, from int, o api.Options, found api.Found) {
	t.Helper()
	o.Budget = found.Steps
	if got, e := Find(pattern, text, from, o); e != api.OK || got != found {
		t.Errorf("P6: Find(%q, %q, %d, %+v) with just enough steps = %v, %d, want %v", pattern, text, from, o, got, e, found)
	}
	o.Budget--
	if got, e := Find(pattern, text, from, o); e != api.ErrBudget || got != (api.Found{}) {
		t.Errorf("P6: Find(%q, %q, %d, %+v) with a step too few = %v, %d, want ErrBudget", pattern, text, from, o, got, e)
	}
}

func TestP6Examples(t *testing.T) {
	expectFind(t, "P6", []searched{
		{"(a*)b", "aab", 0, "0-3 0-2", 15}, {"a|ab", "ab", 0, "0-1", 4}, {"b", "aa", 0, "", 3}, {`(.)\1`, "abba", 0, "1-3 1-2", 9},
		{"(?!a).", "ab", 0, "1-2", 7}, {"(?>a|ab)c", "abc", 0, "", 18}, {"(|a)*", "a", 0, "0-1 0-1", 19}, {"(?:a|a)(?:a|a)b", "aa", 0, "", 29},
	})
	if found, e := Find(`(.)\1`, "abba", 0, api.Options{Policy: api.Every, Room: 100, Budget: 1000}); e != api.OK || found.Steps != 9 || found.At != placed(t, "1-3 1-2") {
		t.Errorf("P6: of a code with a Back nothing is chosen, and yet: %v, %d", found, e)
	}
	if found, e := Find("(?:a|a)(?:a|a)b", "aa", 0, api.Options{Policy: api.Every, Room: 0, Budget: 1000}); e != api.OK || found.Ok || found.Steps != 29 {
		t.Errorf("P6: a table without room spares nothing, and yet: %v, %d", found, e)
	}
}

func TestP6One(t *testing.T) {
	expectFind(t, "P6", []searched{
		{"a", "a", 0, "0-1", 2}, {"a", "b", 0, "", 2}, {"a", "", 0, "", 1}, {"ab", "aab", 0, "1-3", 5}, {"ab", "a", 0, "", 3}, {"abc", "abcabc", 1, "3-6", 6},
		{".", "\x00", 0, "0-1", 2}, {".", "\n", 0, "0-1", 2}, {".", "\xff", 0, "0-1", 2}, {".", "", 0, "", 1}, {"[^\x00-\xff]", "a\x00\xff", 0, "", 4}, {"[^a]", "a\xff", 0, "1-2", 3},
		{"ä", "aä", 0, "1-3", 4}, {"[\x80-\xff]+", "ä", 0, "0-2", 0}, {`[b-d]\d\w\.`, "abc1_.", 0, "2-6", 8}, {`\d`, "a/:b0", 0, "4-5", 6}, {`\w`, "@[`{/:_", 0, "6-7", 8},
	})
	for b := 0; b < 256; b++ {
		own, next := string([]byte{byte(b)}), string([]byte{byte(b + 1)})
		expectFind(t, "P6", []searched{{".", next + own, 1, "1-2", 2}})
		if e, _ := Check("[" + own + "]"); e == api.OK {
			expectFind(t, "P6", []searched{{"[" + own + "]", next + own, 0, "1-2", 3}})
		}
	}
}

func TestP6SplitAndJump(t *testing.T) {
	expectFind(t, "P6", []searched{
		{"a|b", "a", 0, "0-1", 4}, {"a|b", "b", 0, "0-1", 4}, {"a|b", "c", 0, "", 6}, {"|", "", 0, "0-0", 3}, {"a||b", "b", 0, "0-0", 5}, {"|a", "a", 0, "0-0", 3},
		{"(?:)?b", "", 0, "", 3}, {"a?", "a", 0, "0-1", 3}, {"a?", "b", 0, "0-0", 3}, {"a??", "a", 0, "0-0", 2}, {"a??b", "ab", 0, "0-2", 5},
		{"a|b|c", "c", 0, "0-1", 6}, {"(?:a|b)c", "bc", 0, "0-2", 5}, {"a{0,2}b", "aab", 0, "0-3", 6}, {"a{0,2}?b", "aab", 0, "0-3", 8}, {"a{1,2}", "aaa", 0, "0-2", 4},
	})
}

func TestP6MarkAndAgain(t *testing.T) {
	expectFind(t, "P6", []searched{
		{"a*", "aa", 0, "0-2", 12}, {"a*", "aab", 2, "2-2", 4}, {"a*", "aab", 3, "3-3", 4}, {"a*", "", 0, "0-0", 4}, {"(?:)*", "", 0, "0-0", 4}, {"(?:)*", "aa", 1, "1-1", 4},
		{"a*?", "aa", 0, "0-0", 2}, {"a*?b", "ab", 0, "0-2", 8}, {"a+", "a", 0, "0-1", 5}, {"a{2,}", "aaa", 0, "0-3", 10}, {"(?:a*)*", "a", 0, "0-1", 17}, {"(?:^)*a", "a", 0, "0-1", 6},
		{"(?:a|b)*", "ab", 0, "0-2", 18}, {"(?:|a)*b", "ab", 0, "0-2", 0}, {"(?:a?)*b", "b", 0, "0-1", 0},
	})
	for text, places := range map[string]string{"": "0-0", "a": "0-1", "aaa": "0-3", "baaa": "0-0"} {
		p := "a*"
		for depth := 1; depth < api.MaxNest; depth++ {
			expectFind(t, "P6", []searched{{p, text, 0, places, 0}})
			p = "(?:" + p + ")*"
		}
	}
	deepest := strings.Repeat("(?:", api.MaxNest) + "a*" + strings.Repeat(")*", api.MaxNest)
	// All Marks and Splits, the One, all Agains, and the Match of the outermost Split.
	expectFind(t, "P6", []searched{{deepest, "", 0, "0-0", 2*11 + 1 + 10 + 1}, {deepest + "$", "", 0, "0-0", 2*11 + 1 + 10 + 2}, {deepest + "b", "b", 0, "0-1", 2*11 + 1 + 10 + 2}})
}

func TestP6OpenAndClose(t *testing.T) {
	expectFind(t, "P6", []searched{
		{"(a)", "a", 0, "0-1 0-1", 4}, {"()", "", 0, "0-0 0-0", 3}, {"(a)(b)", "cab", 0, "1-3 1-2 2-3", 9}, {"((a)b)", "ab", 0, "0-2 0-2 0-1", 7}, {"(a)*", "aa", 0, "0-2 1-2", 17}, {"(a)*", "b", 0, "0-0", 5},
		{"(a)|(b)", "b", 0, "0-1 - 0-1", 7}, {"(a){0}(b)", "b", 0, "0-1 - 0-1", 4}, {"(a){3}", "aaa", 0, "0-3 2-3", 10}, {"(a)b|a(c)", "ac", 0, "0-2 - 1-2", 10},
		{"(?:(a)|b)*", "ab", 0, "0-2 0-1", 0}, {"(a|b)*", "ab", 0, "0-2 1-2", 0}, {"((a)|(b))*", "ab", 0, "0-2 1-2 0-1 1-2", 0}, {"((a)|b)*c|", "ab", 0, "0-0", 0}, {"(a*)*", "aa", 0, "0-2 0-2", 0}, {"(a*)+", "aa", 0, "0-2 0-2", 22}, {"(a|)+", "a", 0, "0-1 0-1", 13},
		{"()()()()()()()()()", "a", 1, strings.Repeat("1-1 ", 10), 19}, {"(((((((((a)))))))))", "a", 0, strings.Repeat("0-1 ", 10), 20}, {"(?:()()()()()()()()(a))?", "b", 0, "0-0", 20},
	})
}

func TestP6Back(t *testing.T) {
	expectFind(t, "P6", []searched{
		{`(a)\1`, "aa", 0, "0-2 0-1", 5}, {`(a)\1`, "ab", 0, "", 8}, {`()\1`, "", 0, "0-0 0-0", 4}, {`(ab)\1`, "aba", 0, "", 12}, {`(ab)\1`, "xabab", 0, "1-5 1-3", 8}, {`(a+)\1`, "aaaa", 0, "0-4 0-2", 0},
		{`(a)|\1`, "", 0, "", 4}, {`(a)|b\1`, "b", 0, "", 9}, {`(a)?\1`, "b", 0, "", 8}, {`(?!(a))\1`, "b", 0, "", 8}, {`(a){0}\1`, "a", 0, "", 2}, {`(?:(a)|b\1)*`, "aba", 0, "0-3 0-1", 0}, {`(?:(a)|b\1)*`, "ba", 0, "0-0", 0},
		{`(.)(.)\2\1`, "xabbay", 0, "1-5 1-2 2-3", 0}, {`(?:(.)\1)*`, "aabbc", 0, "0-4 2-3", 0}, {`(?=(a+))a*b\1`, "baaabac", 0, "3-6 3-4", 0}, {`(a*)\1b`, "aaab", 0, "1-4 1-2", 0}, {`(a|ab)(c|bc)\1`, "abcab", 0, "0-4 0-1 1-3", 13}, {`(a|ab)(c|bc)\1$`, "abcab", 0, "0-5 0-2 2-3", 0}, {`(?:(a|b)\1?)+$`, "aab", 0, "0-3 2-3", 0},
		{`(?=(abc))\1`, "abc", 0, "0-3 0-3", 0}, {`(?=(.*))\1{2}`, "aa", 0, "2-2 2-2", 0}, {strings.Repeat("()", 8) + `(.)\9`, "abb", 0, "1-3 " + strings.Repeat("1-1 ", 8) + "1-2", 0}, {`(.)(?!\1).`, "aab", 0, "1-3 1-2", 0},
	})
	expectFind(t, "P6", []searched{{"(\xff\x00)\\1", "\xff\x00\xff\x00", 0, "0-4 0-2", 6}, {"(\xff)\\1", "\xff\xfe\xff", 0, "", 12}})
}

func TestP6HeadAndTail(t *testing.T) {
	expectFind(t, "P6", []searched{
		{"^", "", 0, "0-0", 2}, {"^", "a", 0, "0-0", 2}, {"^", "a", 1, "", 1}, {"^a", "ba", 0, "", 4}, {"^a", "aa", 1, "", 2}, {"a^", "aa", 0, "", 5}, {"(?:^a|b)*", "abab", 0, "0-2", 0},
		{"$", "", 0, "0-0", 2}, {"$", "ab", 0, "2-2", 4}, {"$", "ab", 2, "2-2", 2}, {"a$", "aa", 0, "1-2", 5}, {"$a", "a", 0, "", 3}, {"$^", "", 0, "0-0", 3}, {"^$", "a", 0, "", 3}, {"a$", "a\n", 0, "", 4}, {"^b", "a\nb", 0, "", 5},
	})
}

func TestP6Sub(t *testing.T) {
	expectFind(t, "P6", []searched{
		{"(?>a)b", "ab", 0, "0-2", 5}, {"(?>a)b", "b", 0, "", 4}, {"(?>)", "a", 1, "1-1", 3}, {"(?>a|a)b", "a", 0, "", 10}, {"(?>a|ab)", "ab", 0, "0-1", 6}, {"(?>(a)|b)c", "ac", 0, "0-2 0-1", 9}, {"a*+a", "a", 0, "", 16}, {"a?+a", "a", 0, "", 10}, {"(?>a*?)", "a", 0, "0-0", 4},
		{"(?=a)", "a", 0, "0-0", 4}, {"(?=(a))", "a", 0, "0-0 0-1", 6}, {"(?=a)b", "ab", 0, "", 8}, {"(?=)a", "a", 0, "0-1", 4}, {"a(?=b)", "aab", 0, "1-2", 8}, {"(?=(a|ab))\\1c", "abc", 0, "", 0}, {"(?=a*)", "aa", 0, "0-0", 0},
		{"(?!a)", "", 0, "0-0", 3}, {"(?!a)", "a", 0, "1-1", 6}, {"(?!(a))b", "b", 0, "0-1", 5}, {"(?!)", "a", 0, "", 4}, {"(?!(a)b)a", "aa", 0, "0-1", 7}, {"(a)(?!(b)c)b", "abb", 0, "0-2 0-1", 10}, {"(?!.)", "ab", 0, "2-2", 9}, {"(?!(?!a))", "a", 0, "0-0", 5},
		{"(?>(?=a)(?!b)a)", "a", 0, "0-1", 9}, {"(?:(?=a*)a)*", "aa", 0, "0-2", 0}, {"(?:(?>a*))*b", "aab", 0, "0-3", 0}, {"(?>(?:a|b)*)", "ab", 0, "0-2", 0}, {"(?:(?!ab).)*", "aab", 0, "0-1", 0},
	})
	atoms := "a*+"
	for depth := 0; depth < api.MaxNest; depth++ {
		atoms = "(?>" + atoms + ")*+"
	}
	// Around each group Sub, Split, Mark and Sub, then Done, Again and Done; of the innermost atom Sub, Split, Mark, One and Done; and the Match.
	expectFind(t, "P6", []searched{{atoms, "aab", 0, "0-2", 0}, {atoms, "", 0, "0-0", 10*7 + 5 + 1}})
}

func TestP6From(t *testing.T) {
	expectFind(t, "P6", []searched{
		{"", "", 0, "0-0", 1}, {"", "abc", 0, "0-0", 1}, {"", "abc", 2, "2-2", 1}, {"", "abc", 3, "3-3", 1}, {"b", "aa", 1, "", 2}, {"b", "aa", 2, "", 1}, {"a", "aba", 1, "2-3", 3}, {"a", "aba", 2, "2-3", 2}, {"a", "aba", 3, "", 1},
		{"(a)|b", "aab", 1, "1-2 1-2", 6}, {`(.)\1`, "aabb", 1, "2-4 2-3", 9}, {"b*", "bbb", 1, "1-3", 12},
	})
	long := strings.Repeat("a", api.MaxText)
	for from := 0; from <= api.MaxText; from++ {
		expectFind(t, "P6", []searched{{"b", long, from, "", 61 - from}, {"$", long, from, "60-60", 62 - from}})
	}
	expectFind(t, "P6", []searched{{".{20}.{20}.{20}", long, 0, "0-60", 61}, {"a*", long, 0, "0-60", 4*60 + 4}})
}

func TestP6Errors(t *testing.T) {
	usual := api.Options{Budget: 1000}
	bad := api.Options{Policy: -1, Mask: -1, Room: -1, Budget: -1}
	most, more := strings.Repeat("a", api.MaxText), strings.Repeat("a", api.MaxText+1)
	for _, c := range []struct {
		pattern, text string
		from          int
		o             api.Options
		want          api.Errno
	}{
		{strings.Repeat("a", 65), more, -1, bad, api.ErrLong}, {`a\q`, more, -1, bad, api.ErrEscape}, {"[z-a]", more, -1, bad, api.ErrClass}, {"a{3,2}", more, -1, bad, api.ErrCount}, {"x(?a)", more, -1, bad, api.ErrGroup}, {`(a)\2`, more, -1, bad, api.ErrBack},
		{"a**", more, -1, bad, api.ErrRepeat}, {strings.Repeat("(?:", 11), more, -1, bad, api.ErrDeep}, {strings.Repeat("()", 10), more, -1, bad, api.ErrMany}, {")", more, -1, bad, api.ErrClose}, {"a(b", more, -1, bad, api.ErrOpen}, {"(?:a{20}){20}", more, -1, bad, api.ErrBig},
		{"a", more, -1, bad, api.ErrLong}, {"a", more, 0, usual, api.ErrLong}, {"a", more, 0, api.Options{}, api.ErrLong}, {"a", strings.Repeat("a", 5000000), 0, usual, api.ErrLong}, {"", more, 61, usual, api.ErrLong},
		{"a", most, -1, bad, api.ErrArg}, {"a", most, -1, usual, api.ErrArg}, {"a", most, 61, usual, api.ErrArg}, {"", "", 1, usual, api.ErrArg}, {"a", "ab", 3, usual, api.ErrArg}, {"a", "ab", 3, api.Options{}, api.ErrArg}, {"a", "ab", -1 << 63, usual, api.ErrArg}, {"a", "ab", 1<<63 - 1, usual, api.ErrArg},
		{"", "", 0, api.Options{}, api.ErrBudget}, {"a", "a", 0, api.Options{}, api.ErrBudget}, {"a", "a", 0, api.Options{Budget: 1}, api.ErrBudget}, {"a|ab", "ab", 0, api.Options{Budget: 3}, api.ErrBudget},
		{"(?:a|a)*b", most, 0, api.Options{Budget: api.MaxBudget}, api.ErrBudget}, {"(?>(?:a|a)*b)", most, 0, api.Options{Budget: api.MaxBudget}, api.ErrBudget}, {"(?!(?:a|a)*b)", most, 0, api.Options{Budget: api.MaxBudget}, api.ErrBudget}, {"(?=(?:a|a)*b)", most, 0, api.Options{Budget: api.MaxBudget}, api.ErrBudget},
	} {
		if got, e := Find(c.pattern, c.text, c.from, c.o); e != c.want || got != (api.Found{}) {
			t.Errorf("P6: Find(%.70q, %.70q, %d, %v) = %v, %d, want %d and nothing", c.pattern, c.text, c.from, c.o, got, e, c.want)
		}
	}
}

func TestP6Options(t *testing.T) {
	want := api.Found{Ok: true, At: placed(t, "1-2"), Steps: 3}
	for _, n := range append([]int{2, 3, api.MaxRoom, api.MaxRoom + 1}, wildNumbers...) {
		for _, c := range []struct {
			o    api.Options
			most int
		}{
			{api.Options{Policy: n, Budget: 3}, api.Masked}, {api.Options{Mask: n, Budget: 3}, api.MaxMask}, {api.Options{Room: n, Budget: 3}, api.MaxRoom}, {api.Options{Budget: n}, api.MaxBudget},
			{api.Options{Policy: api.Masked, Mask: api.MaxMask, Room: n, Budget: api.MaxBudget}, api.MaxRoom}, {api.Options{Policy: api.Joins, Mask: n, Room: api.MaxRoom, Budget: api.MaxBudget}, api.MaxMask},
		} {
			got, e := Find("a", "ba", 0, c.o)
			switch {
			case n < 0 || n > c.most:
				if e != api.ErrArg || got != (api.Found{}) {
					t.Errorf("P6: Find with %+v = %v, %d, want ErrArg and nothing", c.o, got, e)
				}
			case c.o.Budget < 3:
				if e != api.ErrBudget || got != (api.Found{}) {
					t.Errorf("P6: Find with %+v = %v, %d, want ErrBudget and nothing", c.o, got, e)
				}
			case e != api.OK || got != want:
				t.Errorf("P6: Find with %+v = %v, %d, want %v", c.o, got, e, want)
			}
		}
	}
}

func TestP7Outcomes(t *testing.T) {
	expectFind(t, "P7", []searched{
		{"(a|ab)(c|bcd)(d*)", "abcd", 0, "0-4 0-1 1-4 4-4", 0}, {"a|ab|abc", "abc", 0, "0-1", 0}, {"abc|ab|a", "abd", 0, "0-2", 0}, {"(?:a|ab)c", "abc", 0, "0-3", 0}, {"(?:a|ab)(?:c|bcd)$", "abcd", 0, "0-4", 0}, {"b|ab", "ab", 0, "0-2", 0}, {"(?:|a)$", "a", 0, "0-1", 0},
		{"a*?b", "aab", 0, "0-3", 0}, {"(a*?)(a*)", "aa", 0, "0-2 0-0 0-2", 0}, {"(a*)(a*)", "aa", 0, "0-2 0-2 2-2", 0}, {"(a*)(a*?)", "aa", 0, "0-2 0-2 2-2", 0}, {"(a+?)(a+)", "aaa", 0, "0-3 0-1 1-3", 0}, {"(a??)(a?)", "a", 0, "0-1 0-0 0-1", 0}, {"(a{1,2})(a{1,2}?)", "aaaa", 0, "0-3 0-2 2-3", 0}, {"(a{0,3}?)b", "aab", 0, "0-3 0-2", 0},
		{"a{2,3}", "aaaa", 0, "0-3", 0}, {"a{2,3}?", "aaaa", 0, "0-2", 0}, {"a{2,}", "baaaa", 0, "1-5", 0}, {"a{2,}?", "baaaa", 0, "1-3", 0}, {"a{3}", "aaxaaa", 0, "3-6", 0}, {"a{0}", "a", 0, "0-0", 0}, {"a{0,0}?b", "ab", 0, "1-2", 0}, {"a{2}", "a", 0, "", 0}, {"(?:a|b){2}", "xab", 0, "1-3", 0},
		{"a*+a", "aaa", 0, "", 0}, {"a*+b", "aab", 0, "0-3", 0}, {"a{1,2}+a", "aa", 0, "", 0}, {"a{1,2}+a", "aaa", 0, "0-3", 0}, {"a++b", "ab", 0, "0-2", 0}, {"(?:a|ab)?+c", "abc", 0, "2-3", 0}, {"(a|ab)*+c", "abc", 0, "2-3", 0},
		{"(?>a*)a", "aaa", 0, "", 0}, {"(?>a*?)a", "aaa", 0, "0-1", 0}, {"(?>a|ab)c", "abc", 0, "", 0}, {"(?>ab|a)c", "ac", 0, "0-2", 0}, {"(?>a)|b", "b", 0, "0-1", 0},
		{"(?=a|(b))(..)", "xbc", 0, "1-3 1-2 1-3", 0}, {"(?=(a*))\\1a", "aa", 0, "", 0}, {"(?=(a*?))\\1a", "aa", 0, "0-1 0-0", 0}, {"(?=a)*b", "ab", 0, "1-2", 0}, {"(?=(a)){2}a", "a", 0, "0-1 0-1", 0}, {"(?:(?=(a)))*a", "a", 0, "0-1", 0},
		{"(?!ab)a", "abac", 0, "2-3", 0}, {"(?!(a)).", "ab", 0, "1-2", 0}, {"(?!a|b).", "abc", 0, "2-3", 0}, {"(?!a){2}.", "ab", 0, "1-2", 0}, {"(?:(?!b).)*", "aab", 0, "0-2", 0},
		{"(|a)+", "a", 0, "0-1 0-1", 0}, {"(a|)*", "b", 0, "0-0", 0}, {"(|a){2}", "a", 0, "0-0 0-0", 0}, {"(|a){2,}", "aa", 0, "0-2 1-2", 0}, {"(a|b*)*", "abb", 0, "0-3 1-3", 0}, {"(?:a*?)*b", "aab", 0, "0-3", 0}, {"(?:a|())*b", "ab", 0, "0-2", 0}, {"(?:()|a)*b", "ab", 0, "0-2", 0}, {"(?:()|a)+b", "ab", 0, "0-2 0-0", 0},
		{"x*", "aaa", 0, "0-0", 0}, {"a", "baa", 0, "1-2", 0}, {"(a|b|c|d)*?d", "abcd", 0, "0-4 2-3", 0}, {`[^a]\d\w`, "aa\n7_", 0, "2-5", 0}, {"(?:(a)|(b)|(c))*", "cab", 0, "0-3 1-2 2-3 0-1", 0},
	})
}

func TestP1FindAtAllInputs(t *testing.T) {
	for _, p := range wild {
		want, _ := Check(p)
		for _, text := range wild {
			for _, from := range append([]int{len(text) / 2, len(text) - 1, len(text), len(text) + 1}, wildNumbers...) {
				for policy := api.None - 1; policy <= api.Masked+1; policy++ {
					got, e := Find(p, text, from, api.Options{Policy: policy, Mask: api.MaxMask, Room: api.MaxRoom, Budget: api.MaxBudget})
					if e != api.OK && got != (api.Found{}) || want != api.OK && e != want || e == api.OK && (got.Steps < 1 || got.Ok != (got.At[0] >= 0)) {
						t.Fatalf("P1: Find(%.70q, %.70q, %d) with the policy %d = %v, %d", p, text, from, policy, got, e)
					}
				}
			}
		}
	}
}

func TestP2FindKeepsNothing(t *testing.T) {
	for _, before := range wild {
		for _, o := range []api.Options{{}, {Budget: 1}, {Budget: api.MaxBudget}, {Policy: api.Every, Room: api.MaxRoom, Budget: api.MaxBudget}} {
			Find(before, "abaab", 1, o)
			Find("(?>(a)|b)*", before, 0, o)
			expectFind(t, "P2", []searched{{"(a*)b", "aab", 0, "0-3 0-2", 15}, {`(a)?(?:b|\1)`, "cb", 0, "1-2", 0}, {"(?:a|a)(?:a|a)b", "aa", 0, "", 29}})
		}
	}
}
