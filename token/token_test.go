package token

import (
	"testing"

	"matcher/api"
)

const (
	digits = "0123456789"
	words  = digits + "ABCDEFGHIJKLMNOPQRSTUVWXYZ_abcdefghijklmnopqrstuvwxyz"
)

// from gives all bytes from the first to the last.
func from(first int, last int) string {
	s := ""
	for b := first; b <= last; b++ {
		s += string([]byte{byte(b)})
	}
	return s
}

func TestRead(t *testing.T) {
	for _, c := range []struct {
		pattern string
		want    Token
	}{
		{"|a", Token{Kind: Bar, End: 1}},
		{"(a", Token{Kind: Open, End: 1, Group: Capturing}},
		{"(", Token{Kind: Open, End: 1, Group: Capturing}},
		{"(?:a", Token{Kind: Open, End: 3, Group: Plain}},
		{"(?>a", Token{Kind: Open, End: 3, Group: Atomic}},
		{"(?=a", Token{Kind: Open, End: 3, Group: Ahead}},
		{"(?!a", Token{Kind: Open, End: 3, Group: Never}},
		{")*", Token{Kind: Close, End: 1}},
		{"*", Token{Kind: Repeat, End: 1, Least: 0, Most: Endless, Mood: Greedy}},
		{"+a", Token{Kind: Repeat, End: 1, Least: 1, Most: Endless, Mood: Greedy}},
		{"?*", Token{Kind: Repeat, End: 1, Least: 0, Most: 1, Mood: Greedy}},
		{"*?", Token{Kind: Repeat, End: 2, Least: 0, Most: Endless, Mood: Lazy}},
		{"+?+", Token{Kind: Repeat, End: 2, Least: 1, Most: Endless, Mood: Lazy}},
		{"??", Token{Kind: Repeat, End: 2, Least: 0, Most: 1, Mood: Lazy}},
		{"*+", Token{Kind: Repeat, End: 2, Least: 0, Most: Endless, Mood: Possessive}},
		{"++", Token{Kind: Repeat, End: 2, Least: 1, Most: Endless, Mood: Possessive}},
		{"?+", Token{Kind: Repeat, End: 2, Least: 0, Most: 1, Mood: Possessive}},
		{"{3}", Token{Kind: Repeat, End: 3, Least: 3, Most: 3, Mood: Greedy}},
		{"{03}?", Token{Kind: Repeat, End: 5, Least: 3, Most: 3, Mood: Lazy}},
		{"{0,}", Token{Kind: Repeat, End: 4, Least: 0, Most: Endless, Mood: Greedy}},
		{"{20,}+", Token{Kind: Repeat, End: 6, Least: 20, Most: Endless, Mood: Possessive}},
		{"{1,20}*", Token{Kind: Repeat, End: 6, Least: 1, Most: 20, Mood: Greedy}},
		{"^^", Token{Kind: Head, End: 1}},
		{"$", Token{Kind: Tail, End: 1}},
		{".*", Token{Kind: Bytes, End: 1, Set: from(0, 255)}},
		{"a", Token{Kind: Bytes, End: 1, Set: "a"}},
		{"\xff\xff", Token{Kind: Bytes, End: 1, Set: "\xff"}},
		{"]", Token{Kind: Bytes, End: 1, Set: "]"}},
		{"}", Token{Kind: Bytes, End: 1, Set: "}"}},
		{"[a]]", Token{Kind: Bytes, End: 3, Set: "a"}},
		{`[^\]-a\d]]`, Token{Kind: Bytes, End: 9, Set: from(0, '0'-1) + from('9'+1, '\\') + from('b', 255)}},
		{`\dd`, Token{Kind: Bytes, End: 2, Set: digits}},
		{`\w`, Token{Kind: Bytes, End: 2, Set: words}},
		{`\\d`, Token{Kind: Bytes, End: 2, Set: `\`}},
		{`\_`, Token{Kind: Bytes, End: 2, Set: "_"}},
		{`\1`, Token{Kind: Back, End: 2, Number: 1}},
		{`\99`, Token{Kind: Back, End: 2, Number: 9}},
	} {
		for _, before := range []string{"", "[", "ab(?"} {
			want := c.want
			want.End += len(before)
			if got, e := Read(before+c.pattern, len(before)); e != api.OK || got != want {
				t.Errorf("Read(%q, %d) = %+v, %d, want %+v", before+c.pattern, len(before), got, e, want)
			}
		}
	}
}

func TestReadSet(t *testing.T) {
	for b := 0; b < 256; b++ {
		own := from(b, b)
		if got, _ := Read("["+own+"]", 0); got.Kind == Bytes && got.Set != own {
			t.Errorf("the set of [%q] is %q", own, got.Set)
		}
		if got, _ := Read("[^\\"+own+"]", 0); got.Kind == Bytes && own != "d" && own != "w" && got.Set != from(0, b-1)+from(b+1, 255) {
			t.Errorf("the set of [^\\%q] is %q", own, got.Set)
		}
	}
	for _, c := range []struct{ pattern, want string }{
		{"[ba]", "ab"}, {"[aa]", "a"}, {"[c-ea-d]", "abcde"}, {"[a-a]", "a"}, {"[a^]", "^a"}, {"[^^]", from(0, '^'-1) + from('^'+1, 255)}, {"[^^-a]", from(0, '^'-1) + from('b', 255)},
		{`[\d]`, digits}, {`[\w]`, words}, {`[\d\w]`, words}, {`[\d\d]`, digits}, {`[_\d]`, digits + "_"}, {`[\]\-\\]`, `-\]`}, {`[\--/]`, "-./"}, {`[+-\-]`, "+,-"},
		{"[\x00-\xff]", from(0, 255)}, {"[^\x00-\xff]", ""}, {"[^\x00]", from(1, 255)}, {"[\xff\x80\x7f]", "\x7f\x80\xff"}, {`[^\w]`, from(0, '0'-1) + from('9'+1, 'A'-1) + from('Z'+1, '_'-1) + "`" + from('z'+1, 255)},
		{"[.]", "."}, {"[*-,]", "*+,"}, {"[[]", "["}, {"[$|(){}?]", "$()?{|}"}, {`\^`, "^"}, {"\\\xff", "\xff"}, {`\-`, "-"},
	} {
		if got, _ := Read(c.pattern, 0); got.Set != c.want {
			t.Errorf("the set of %q is %q, want %q", c.pattern, got.Set, c.want)
		}
	}
}

func TestReadRefuses(t *testing.T) {
	for _, c := range []struct {
		pattern string
		want    api.Errno
	}{
		{`\`, api.ErrEscape}, {`\a`, api.ErrEscape}, {`\Z`, api.ErrEscape}, {`\0`, api.ErrEscape},
		{"[", api.ErrClass}, {"[a", api.ErrClass}, {"[]", api.ErrClass}, {"[^]", api.ErrClass}, {"[b-a]", api.ErrClass},
		{"{", api.ErrCount}, {"{1", api.ErrCount}, {"{1,", api.ErrCount}, {"{21}", api.ErrCount}, {"{2,1}", api.ErrCount},
		{"(?", api.ErrGroup}, {"(?<", api.ErrGroup},
	} {
		if got, e := Read(c.pattern, 0); e != c.want || got != (Token{}) {
			t.Errorf("Read(%q, 0) = %+v, %d, want no token, %d", c.pattern, got, e, c.want)
		}
	}
}

func TestReadOutside(t *testing.T) {
	for _, at := range []int{-1 << 63, -1, 3, 4, 1<<63 - 1} {
		if got, e := Read("a*b", at); e != api.OK || got != (Token{}) {
			t.Errorf("Read(\"a*b\", %d) = %+v, %d, want nothing", at, got, e)
		}
	}
}
