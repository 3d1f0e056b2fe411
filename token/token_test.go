package token

import (
	"testing"

	"matcher/api"
)

func TestRead(t *testing.T) {
	for _, c := range []struct {
		pattern string
		want    Token
	}{
		{"|a", Token{Kind: Bar, End: 1}},
		{"(a", Token{Kind: Open, End: 1, Group: Capturing}},
		{"(", Token{Kind: Open, End: 1, Group: Capturing}},
		{"(?:a", Token{Kind: Open, End: 3, Group: Plain}},
		{"(?>a", Token{Kind: Open, End: 3, Group: Atomic}},
		{"(?=a", Token{Kind: Open, End: 3, Group: Ahead}},
		{"(?!a", Token{Kind: Open, End: 3, Group: Never}},
		{")*", Token{Kind: Close, End: 1}},
		{"*", Token{Kind: Repeat, End: 1, Least: 0, Most: Endless, Mood: Greedy}},
		{"+a", Token{Kind: Repeat, End: 1, Least: 1, Most: Endless, Mood: Greedy}},
		{"?*", Token{Kind: Repeat, End: 1, Least: 0, Most: 1, Mood: Greedy}},
		{"*?", Token{Kind: Repeat, End: 2, Least: 0, Most: Endless, Mood: Lazy}},
		{"+?+", Token{Kind: Repeat, End: 2, Least: 1, Most: Endless, Mood: Lazy}},
		{"??", Token{Kind: Repeat, End: 2, Least: 0, Most: 1, Mood: Lazy}},
		{"*+", Token{Kind: Repeat, End: 2, Least: 0, Most: Endless, Mood: Possessive}},
		{"++", Token{Kind: Repeat, End: 2, Least: 1, Most: Endless, Mood: Possessive}},
		{"?+", Token{Kind: Repeat, End: 2, Least: 0, Most: 1, Mood: Possessive}},
		{"{3}", Token{Kind: Repeat, End: 3, Least: 3, Most: 3, Mood: Greedy}},
		{"{03}?", Token{Kind: Repeat, End: 5, Least: 3, Most: 3, Mood: Lazy}},
		{"{0,}", Token{Kind: Repeat, End: 4, Least: 0, Most: Endless, Mood: Greedy}},
		{"{20,}+", Token{Kind: Repeat, End: 6, Least: 20, Most: Endless, Mood: Possessive}},
		{"{1,20}*", Token{Kind: Repeat, End: 6, Least: 1, Most: 20, Mood: Greedy}},
		{"^^", Token{Kind: Head, End: 1}},
		{"$", Token{Kind: Tail, End: 1}},
		{".*", Token{Kind: Bytes, End: 1}},
		{"a", Token{Kind: Bytes, End: 1}},
		{"\xff\xff", Token{Kind: Bytes, End: 1}},
		{"]", Token{Kind: Bytes, End: 1}},
		{"}", Token{Kind: Bytes, End: 1}},
		{"[a]]", Token{Kind: Bytes, End: 3}},
		{`[^\]-a\d]]`, Token{Kind: Bytes, End: 9}},
		{`\dd`, Token{Kind: Bytes, End: 2}},
		{`\w`, Token{Kind: Bytes, End: 2}},
		{`\\d`, Token{Kind: Bytes, End: 2}},
		{`\_`, Token{Kind: Bytes, End: 2}},
		{`\1`, Token{Kind: Back, End: 2, Number: 1}},
		{`\99`, Token{Kind: Back, End: 2, Number: 9}},
	} {
		for _, before := range []string{"", "[", "ab(?"} {
			want := c.want
			want.End += len(before)
			if got, e := Read(before+c.pattern, len(before)); e != api.OK || got != want {
				t.Errorf("Read(%q, %d) = %+v, %d, want %+v", before+c.pattern, len(before), got, e, want)
			}
		}
	}
}

func TestReadRefuses(t *testing.T) {
	for _, c := range []struct {
		pattern string
		want    api.Errno
	}{
		{`\`, api.ErrEscape}, {`\a`, api.ErrEscape}, {`\Z`, api.ErrEscape}, {`\0`, api.ErrEscape},
		{"[", api.ErrClass}, {"[a", api.ErrClass}, {"[]", api.ErrClass}, {"[^]", api.ErrClass}, {"[b-a]", api.ErrClass},
		{"{", api.ErrCount}, {"{1", api.ErrCount}, {"{1,", api.ErrCount}, {"{21}", api.ErrCount}, {"{2,1}", api.ErrCount},
		{"(?", api.ErrGroup}, {"(?<", api.ErrGroup},
	} {
		if got, e := Read(c.pattern, 0); e != c.want || got != (Token{}) {
			t.Errorf("Read(%q, 0) = %+v, %d, want no token, %d", c.pattern, got, e, c.want)
		}
	}
}

func TestReadOutside(t *testing.T) {
	for _, at := range []int{-1 << 63, -1, 3, 4, 1<<63 - 1} {
		if got, e := Read("a*b", at); e != api.OK || got != (Token{}) {
			t.Errorf("Read(\"a*b\", %d) = %+v, %d, want nothing", at, got, e)
		}
	}
}
