package matcher

import (
	"fmt"
	"strings"
	"testing"
	"time"

	"matcher/api"
)

type checked struct {
	pattern string
	e       api.Errno
	at      int
}

func expect(t *testing.T, promise string, cases []checked) {
	t.Helper()
	for _, c := range cases {
		if e, at := Check(c.pattern); e != c.e || at != c.at {
			t.Errorf("%s: Check(%.80q) = %d, %d, want %d, %d", promise, c.pattern, e, at, c.e, c.at)
		}
	}
}

func expectOK(t *testing.T, promise string, patterns []string) {
	t.Helper()
	for _, p := range patterns {
		expect(t, promise, []checked{{p, api.OK, 0}})
	}
}

func TestP3Examples(t *testing.T) {
	expect(t, "P3", []checked{
		{"a(b", api.ErrOpen, 3}, {"a**", api.ErrRepeat, 2}, {"[z-a]", api.ErrClass, 0}, {`(a)\2`, api.ErrBack, 3},
		{"a{3,2}", api.ErrCount, 1}, {"x(?a)", api.ErrGroup, 1}, {")", api.ErrClose, 0}, {`a\q`, api.ErrEscape, 1},
	})
	expectOK(t, "P3", []string{
		"a|b", "(a*)b", "a{1,3}?", "a?+", "a|ab", "b", `(.)\1`, "(?!a).", "(?>a|ab)c", "(|a)*", "(?:a|a)(?:a|a)b", "a*",
	})
}

func TestP3Escape(t *testing.T) {
	for b := 0; b < 256; b++ {
		p := "a\\" + string([]byte{byte(b)})
		letter := b >= 'a' && b <= 'z' || b >= 'A' && b <= 'Z'
		want := checked{p, api.OK, 0}
		switch {
		case b >= '1' && b <= '9':
			want = checked{p, api.ErrBack, 1}
		case b == '0' || letter && b != 'd' && b != 'w':
			want = checked{p, api.ErrEscape, 1}
		}
		expect(t, "P3", []checked{want})
	}
	expect(t, "P3", []checked{
		{`\`, api.ErrEscape, 0}, {`\\\`, api.ErrEscape, 2}, {`a|(\x)`, api.ErrEscape, 3}, {`()\11`, api.OK, 0}, {`()\10`, api.OK, 0},
	})
}

func TestP3SingleBytes(t *testing.T) {
	for b := 0; b < 256; b++ {
		p := string([]byte{byte(b)})
		want := checked{p, api.OK, 0}
		switch b {
		case '\\':
			want.e = api.ErrEscape
		case '[':
			want.e = api.ErrClass
		case '{':
			want.e = api.ErrCount
		case '*', '+', '?':
			want.e = api.ErrRepeat
		case ')':
			want.e = api.ErrClose
		case '(':
			want = checked{p, api.ErrOpen, 1}
		}
		expect(t, "P3", []checked{want})
	}
}

func TestP3Class(t *testing.T) {
	expectOK(t, "P3", []string{
		"[a]", "[^a]", "[^^]", "[^^-a]", "[a^]", "[[]", "[[-[]", "[a-z0-9]", "[a-a]", "[\x00-\xff]", "[^\x00-\xff]", "[\xfe-\xff]", `[\d]`, `[\w\d]`, `[a\d]`,
		`[\-]`, `[\--a]`, `[\\-\]]`, `[A-\]]`, `[\^]`, "[|]", "[()]", "[*+?{}]", "[$.]", "[,]", `[,-\-]`, "[\n]", "[\x00]", "[\\\xff]", "[a]]", "[a]*", `[\]]`,
	})
	for _, class := range []string{
		"[", "[^", "[]", "[^]", "[a", "[a-", "[a-z", `[\`, `[\]`, `[a\]`, `[^\]`, "[]a]", "[^]a]", "[-]", "[^-a]", "[a-]", "[--a]", "[a--]", "[a-b-c]", "[b-a]", "[\xff-\xfe]", "[\xff-a]",
		`[\q]`, `[\D]`, `[\0]`, `[\1]`, `[a-\d]`, `[\d-a]`, `[\w-\w]`, `[a-\q]`, `[a-\]]`, "[ab-]", "[a-]b]",
	} {
		expect(t, "P3", []checked{{class, api.ErrClass, 0}, {"(a|" + class, api.ErrClass, 3}})
	}
	for b := 0; b < 256; b++ {
		letter := b >= 'a' && b <= 'z' || b >= 'A' && b <= 'Z'
		digit := b >= '0' && b <= '9'
		item := string([]byte{byte(b)})
		want := checked{"[" + item + "]", api.OK, 0}
		if b == '\\' || b == ']' || b == '-' || b == '^' {
			want.e = api.ErrClass
		}
		escaped := checked{"[\\" + item + "]", api.OK, 0}
		if digit || letter && b != 'd' && b != 'w' {
			escaped.e = api.ErrClass
		}
		expect(t, "P3", []checked{want, escaped})
	}
}

func TestP3Count(t *testing.T) {
	for n := 0; n < 100; n++ {
		one, most := checked{fmt.Sprintf("a{%d}", n), api.OK, 0}, checked{fmt.Sprintf("a{0,%02d}", n), api.OK, 0}
		endless := checked{fmt.Sprintf("a{%02d,}", n), api.OK, 0}
		if n > 20 {
			one, most, endless = checked{one.pattern, api.ErrCount, 1}, checked{most.pattern, api.ErrCount, 1}, checked{endless.pattern, api.ErrCount, 1}
		}
		expect(t, "P3", []checked{one, most, endless})
		for m := 0; m < 25; m++ {
			both := checked{fmt.Sprintf("ab{%d,%d}", n, m), api.OK, 0}
			if n > 20 || m > 20 || n > m {
				both = checked{both.pattern, api.ErrCount, 2}
			}
			expect(t, "P3", []checked{both})
		}
	}
	for _, count := range []string{
		"{", "{}", "{,}", "{,1}", "{a}", "{1", "{1,", "{1,2", "{1,2,}", "{1,2,3}", "{001}", "{1,002}", "{000,}", "{ 1}", "{1 }", "{1, 2}", "{-1}", "{+1}", "{1;2}", "{{1}}", "{1{", "{2,1}", "{0,21}",
	} {
		expect(t, "P3", []checked{{count, api.ErrCount, 0}, {"a" + count, api.ErrCount, 1}, {"a*" + count, api.ErrCount, 2}, {"(" + count, api.ErrCount, 1}})
	}
}

func TestP3Group(t *testing.T) {
	expectOK(t, "P3", []string{"(:)", "(>a)", "(=)", "(!)", "(a?)", "(?::)", "(?:)", "(?>)", "(?=)", "(?!)"})
	for b := 0; b < 256; b++ {
		p := "a(?" + string([]byte{byte(b)}) + ")"
		want := checked{p, api.ErrGroup, 1}
		if b == ':' || b == '>' || b == '=' || b == '!' {
			want = checked{p, api.OK, 0}
		}
		expect(t, "P3", []checked{want})
	}
	expect(t, "P3", []checked{{"(?", api.ErrGroup, 0}, {"((?", api.ErrGroup, 1}, {"(??", api.ErrGroup, 0}, {"(?<=a)", api.ErrGroup, 0}})
}

func TestP3Back(t *testing.T) {
	nine := strings.Repeat("()", 9)
	for k := 1; k <= 9; k++ {
		back := fmt.Sprintf("\\%d", k)
		expect(t, "P3", []checked{{nine + back, api.OK, 0}, {nine[:2*k] + back, api.OK, 0}, {nine[:2*k-2] + back, api.ErrBack, 2*k - 2}, {nine[:2*k-1] + back + ")", api.ErrBack, 2*k - 1}})
	}
	expect(t, "P3", []checked{
		{`(a)|\1`, api.OK, 0}, {`(?!(a))\1`, api.OK, 0}, {`(a){0}\1`, api.OK, 0}, {`((a)\2)\1\2`, api.OK, 0}, {`((a)|\2)`, api.OK, 0}, {`(a)(?=\1)`, api.OK, 0},
		{`\1(a)`, api.ErrBack, 0}, {`(?:\1(a))*`, api.ErrBack, 3}, {`((a)\1)\2`, api.ErrBack, 4}, {`(a|\1)`, api.ErrBack, 3}, {`(?:a)\1`, api.ErrBack, 5}, {`(?>(?:a))(b)\2`, api.ErrBack, 12},
	})
}

func TestP3Repeat(t *testing.T) {
	repeats := []string{"*", "+", "?", "{0}", "{2}", "{2,}", "{2,3}", "*?", "+?", "??", "{2}?", "{0,}?", "*+", "++", "?+", "{2}+", "{1,20}+"}
	for _, r := range repeats {
		for _, atom := range []string{"a", "]", "}", "-", ".", "^", "$", "[a]", `\d`, `\w`, `\*`, "()", "(a|b)", "(?:)", "(?>a)", "(?=a)", "(?!a)", `()\1`} {
			expect(t, "P3", []checked{{atom + r, api.OK, 0}, {atom + r + "b" + r, api.OK, 0}})
			for _, first := range []string{"*", "+", "?", "{2}", "{2,}", "{2,3}"} {
				once := atom + first
				expect(t, "P3", []checked{{once + "?" + r, api.ErrRepeat, len(once) + 1}, {once + "+" + r, api.ErrRepeat, len(once) + 1}})
				if r[0] != '?' && r[0] != '+' {
					expect(t, "P3", []checked{{once + r, api.ErrRepeat, len(once)}})
				}
			}
		}
		for _, before := range []string{"", "|", "a|", "(?:", "(?>", "(?=", "(?!", "(a|", "(a)|", "a*|"} {
			expect(t, "P3", []checked{{before + r, api.ErrRepeat, len(before)}})
		}
	}
	expect(t, "P3", []checked{{"(*", api.ErrRepeat, 1}, {"(+)", api.ErrRepeat, 1}, {"({2}a)", api.ErrRepeat, 1}})
}

func TestP3NestAndGroups(t *testing.T) {
	for _, open := range []string{"(?:", "(?>", "(?=", "(?!"} {
		ten := strings.Repeat(open, 10)
		expect(t, "P3", []checked{
			{ten + strings.Repeat(")", 10), api.OK, 0}, {ten, api.ErrOpen, 30}, {ten + open, api.ErrDeep, 30}, {ten + "(", api.ErrDeep, 30}, {ten + "(?", api.ErrGroup, 30},
			{ten + ")" + open + strings.Repeat(")", 10), api.OK, 0}, {ten + ")" + open + open, api.ErrDeep, 34},
		})
	}
	nine := strings.Repeat("(", 9)
	expect(t, "P3", []checked{
		{nine + strings.Repeat(")", 9), api.OK, 0}, {nine + "(?:" + strings.Repeat(")", 10), api.OK, 0}, {nine + "(", api.ErrMany, 9},
		{nine + "(?:(", api.ErrDeep, 12}, {nine + "(?:(?:", api.ErrDeep, 12},
		{strings.Repeat("()", 9) + "(?:)(?>)(?=)(?!)", api.OK, 0}, {strings.Repeat("()", 9) + "a(", api.ErrMany, 19}, {strings.Repeat("(a)", 10), api.ErrMany, 27},
	})
}

func TestP3OpenAndClose(t *testing.T) {
	expect(t, "P3", []checked{
		{")", api.ErrClose, 0}, {"a|b)", api.ErrClose, 3}, {"(a))(", api.ErrClose, 3}, {"(?:a)(?=b))", api.ErrClose, 10},
		{"(", api.ErrOpen, 1}, {"(?:", api.ErrOpen, 3}, {"((a)", api.ErrOpen, 4}, {"(a|(b)|", api.ErrOpen, 7}, {"(a[)]", api.ErrOpen, 5}, {`(a\)`, api.ErrOpen, 4},
	})
}

func TestP3FirstOfSeveral(t *testing.T) {
	expect(t, "P3", []checked{
		{strings.Repeat("*", 65), api.ErrLong, 0}, {strings.Repeat("*", 64), api.ErrRepeat, 0},
		{`**\q[`, api.ErrRepeat, 0}, {`a\q**`, api.ErrEscape, 1}, {`[)*`, api.ErrClass, 0}, {`)[`, api.ErrClose, 0}, {`\1\q`, api.ErrBack, 0}, {`(\q`, api.ErrEscape, 1}, {`((a)\1*{`, api.ErrBack, 4},
		{"{x", api.ErrCount, 0}, {"|{x", api.ErrCount, 1}, {"{1}", api.ErrRepeat, 0}, {"(*", api.ErrRepeat, 1}, {"(?*", api.ErrGroup, 0},
		{"(?:(?:a{20}){20}", api.ErrOpen, 16}, {"(?:a{20}){20})", api.ErrClose, 13}, {"(?:a{20}){20}**", api.ErrRepeat, 13}, {"((?:a{20}){20}", api.ErrOpen, 14},
	})
}

func TestP3Long(t *testing.T) {
	for n := 0; n < 70; n++ {
		p := strings.Repeat("a", n)
		want := checked{p, api.OK, 0}
		if n > 64 {
			want.e = api.ErrLong
		}
		expect(t, "P3", []checked{want})
	}
	expect(t, "P3", []checked{{strings.Repeat("(", 65), api.ErrLong, 0}, {strings.Repeat("\xff", 5000000), api.ErrLong, 0}})
}

// filler has so many instructions; it makes a code just as long as is wanted.
func filler(n int) string {
	return fmt.Sprintf("(?:.{20}){%d}.{%d}", n/20, n%20)
}

func TestP3Big(t *testing.T) {
	for _, c := range []struct {
		part string
		size int
	}{
		{"", 0}, {"a", 1}, {".", 1}, {"[^ab]", 1}, {`\d\w\.`, 3}, {"^$", 2}, {`(a)\1`, 4}, {`()\1{3}`, 5},
		{"(?:)", 0}, {"()", 2}, {"(ab)", 4}, {"(?:ab)", 2}, {"(?>ab)", 4}, {"(?=ab)", 4}, {"(?!ab)", 4}, {"(?>)", 2}, {"((?:(?!a)))", 5},
		{"(?:a|b)", 4}, {"(?:a|b|c)", 7}, {"(?:|)", 2}, {"(?:||)", 4}, {"(|a)", 5},
		{"a*", 4}, {"a+", 5}, {"a?", 2}, {"a*?", 4}, {"a+?", 5}, {"a??", 2}, {"a*+", 6}, {"a++", 7}, {"a?+", 4},
		{"a{0}", 0}, {"a{0}?", 0}, {"a{0}+", 2}, {"a{0,0}", 0}, {"a{1}", 1}, {"a{1}+", 3}, {"a{7}", 7}, {"a{7}?", 7}, {"a{7}+", 9}, {"a{2,5}", 8}, {"a{2,5}?", 8}, {"a{2,5}+", 10}, {"a{0,20}", 40}, {"a{2,}", 6}, {"a{20,}", 24}, {"a{2,}?", 6}, {"a{2,}+", 8},
		{"(?:ab|c)*", 8}, {"(a){3}", 9}, {"(a){2,3}", 10}, {"(?=a)*", 6}, {"(?>a*)+", 15}, {"(?:a*){3}", 12}, {"(?:a{2,3}){2,3}", 4 + 4 + 5},
		{"(?:){20}", 0}, {"(?:){0,20}", 20}, {"(?:)*", 3}, {"(?:){20,}", 3}, {"(?:){20}+", 2}, {"(?:(?:){20}a{0}){20}", 0}, {"(?:(?:a{20}){20}){0}", 0}, {"(?:(?:a{20}){20}){0}b", 1},
	} {
		expect(t, "P3", []checked{{c.part + filler(299-c.size), api.OK, 0}, {c.part + filler(300-c.size), api.ErrBig, 0}})
	}
	expect(t, "P3", []checked{
		{"a|b|" + filler(293), api.OK, 0}, {"a|b|" + filler(294), api.ErrBig, 0},
		{"(?:a{20}){20}", api.ErrBig, 0}, {"(?:a{20}){0,20}", api.ErrBig, 0}, {"(?:a{20}){20,}", api.ErrBig, 0}, {"(?:a{20}){20}|a", api.ErrBig, 0}, {"a|(?:a{20}){20}", api.ErrBig, 0},
		{"(?:(?:(?:(?:(?:(?:(?:a{20}){20}){20}){20}){20}){20}){20}){20}", api.ErrBig, 0}, {"(?:(?:(?:(?:(?:(?:(?:a{20}){20}){20}){20}){20}){20}){20}){0}", api.OK, 0},
	})
}

func TestP1NoInstructionCostsNothing(t *testing.T) {
	begin := time.Now()
	for _, count := range []string{"{20}", "{0}", "{00}?"} {
		empty := ""
		for len(empty)+3+1+len(count) <= api.MaxPattern && strings.Count(empty, "(") < api.MaxNest {
			empty = "(?:" + empty + ")" + count
		}
		expectOK(t, "P1", []string{empty})
	}
	expectOK(t, "P1", []string{"(?:(?:(?:(?:(?:(?:(?:){20}){20}){20}){20}){20}){20}){20}", "(?:(?:(?:(?:(?:a{0}){20}){20}){20}){20}){20}", "(?:(?:(?:(?:(?:(?:){20}){20}){20}){20}){20}){20,}"})
	expect(t, "P1", []checked{{"(?:(?:(?:(?:(?:(?:|){20}){20}){20}){20}){20}){20}", api.ErrBig, 0}, {"(?:(?:(?:(?:(?:(?:)?){20}){20}){20}){20}){20}", api.ErrBig, 0}})
	if time.Since(begin) > 5*time.Second {
		t.Errorf("P1: repeats of nothing took %v", time.Since(begin))
	}
}
