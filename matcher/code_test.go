package matcher

import (
	"fmt"
	"strconv"
	"strings"
	"testing"
	"time"

	"matcher/api"
)

var opNames = []string{"", "One", "Split", "Jump", "Mark", "Again", "Open", "Close", "Back", "Head", "Tail", "Sub", "Done", "Match"}

// parsed reads a code that is written as the document's examples are, without the Match at the end.
func parsed(t *testing.T, text string) []api.Inst {
	t.Helper()
	list := []api.Inst{}
	for _, line := range strings.Split(text+"; Match", "; ") {
		words := strings.Fields(line)
		if len(words) == 0 {
			continue
		}
		in := api.Inst{}
		for op, name := range opNames {
			if name == words[0] {
				in.Op = op
			}
		}
		if in.Op == api.One {
			in.Set = words[1]
		} else if len(words) > 1 {
			in.X, _ = strconv.Atoi(words[1])
		}
		if len(words) > 2 {
			in.Y, _ = strconv.Atoi(words[2])
		}
		if in.Op == 0 {
			t.Fatalf("%q is no instruction", line)
		}
		list = append(list, in)
	}
	return list
}

func same(a []api.Inst, b []api.Inst) bool {
	if len(a) != len(b) {
		return false
	}
	for i := range a {
		if a[i] != b[i] {
			return false
		}
	}
	return true
}

// coded is a pattern with its code and its weight.
type coded struct {
	pattern string
	want    string
	weight  int
}

func expectCode(t *testing.T, cases []coded) {
	t.Helper()
	for _, c := range cases {
		want := parsed(t, c.want)
		if list, e := Code(c.pattern); e != api.OK || !same(list, want) {
			t.Errorf("P4: Code(%q) = %v, %d, want %v", c.pattern, list, e, want)
		}
		if weight, e := Weight(c.pattern); e != api.OK || weight != c.weight {
			t.Errorf("P5: Weight(%q) = %d, %d, want %d", c.pattern, weight, e, c.weight)
		}
	}
}

func TestP4P5Examples(t *testing.T) {
	expectCode(t, []coded{
		{"a|b", "Split 1 3; One a; Jump 4; One b", 5},
		{"(a*)b", "Open 1; Split 2 5; Mark 0; One a; Again 1 0; Close 1; One b", 10},
		{"a{1,3}?", "One a; Split 5 2; One a; Split 5 4; One a", 6},
		{"a?+", "Sub 0 4; Split 2 3; One a; Done", 5},
	})
}

func TestP4P5AlternativesAndSequences(t *testing.T) {
	expectCode(t, []coded{
		{"", "", 1}, {"a", "One a", 2}, {"abc", "One a; One b; One c", 4},
		{"|", "Split 1 2; Jump 2", 3}, {"||", "Split 1 2; Jump 4; Split 3 4; Jump 4", 5},
		{"a|", "Split 1 3; One a; Jump 3", 4}, {"|a", "Split 1 2; Jump 3; One a", 4},
		{"a|b|c|d", "Split 1 3; One a; Jump 10; Split 4 6; One b; Jump 10; Split 7 9; One c; Jump 10; One d", 11},
		{"ab|cd|ef", "Split 1 4; One a; One b; Jump 10; Split 5 8; One c; One d; Jump 10; One e; One f", 11},
		{"x(?:a|b)y", "One x; Split 2 4; One a; Jump 5; One b; One y", 7},
		{"(?:a|(?:b|c)d|e)f", "Split 1 3; One a; Jump 11; Split 4 10; Split 5 7; One b; Jump 8; One c; One d; Jump 11; One e; One f", 13},
		{"a*|b", "Split 1 6; Split 2 5; Mark 0; One a; Again 1 0; Jump 7; One b", 10},
	})
}

func TestP4P5Places(t *testing.T) {
	expectCode(t, []coded{
		{"^a$", "Head; One a; Tail", 4}, {"$^", "Tail; Head", 3}, {"^*", "Split 1 4; Mark 0; Head; Again 0 0", 7}, {"${2}", "Tail; Tail", 3},
		{`()\1`, "Open 1; Close 1; Back 1", 4}, {`()()\2\1\2`, "Open 1; Close 1; Open 2; Close 2; Back 2; Back 1; Back 2", 8},
		{`(a)\1{2}\10`, "Open 1; One a; Close 1; Back 1; Back 1; Back 1; One 0", 8}, {`(a)\1?`, "Open 1; One a; Close 1; Split 4 5; Back 1", 6},
	})
	nine := strings.Repeat("()", 9)
	list, e := Code(nine + `\9`)
	if e != api.OK || len(list) != 20 || list[16] != (api.Inst{Op: api.Open, X: 9}) || list[18] != (api.Inst{Op: api.Back, X: 9}) {
		t.Errorf("P4: the code of nine groups and a backreference to the last is %v, %d", list, e)
	}
}

func TestP4P5Groups(t *testing.T) {
	expectCode(t, []coded{
		{"()", "Open 1; Close 1", 3}, {"(a)(b)", "Open 1; One a; Close 1; Open 2; One b; Close 2", 7}, {"((a)(?:(b)))", "Open 1; Open 2; One a; Close 2; Open 3; One b; Close 3; Close 1", 9},
		{"(a|b)", "Open 1; Split 2 4; One a; Jump 5; One b; Close 1", 7}, {"(a)|(b)", "Split 1 5; Open 1; One a; Close 1; Jump 8; Open 2; One b; Close 2", 9},
		{"(?:)", "", 1}, {"(?:ab)", "One a; One b", 3}, {"(?:(?:a))b", "One a; One b", 3},
		{"(?>)", "Sub 0 2; Done", 3}, {"(?=)", "Sub 1 2; Done", 3}, {"(?!)", "Sub 2 2; Done", 3},
		{"x(?>ab)y", "One x; Sub 0 5; One a; One b; Done; One y", 7}, {"x(?=ab)y", "One x; Sub 1 5; One a; One b; Done; One y", 7}, {"x(?!ab)y", "One x; Sub 2 5; One a; One b; Done; One y", 7},
		{"(?>a(?=b(?!(c))))", "Sub 0 11; One a; Sub 1 10; One b; Sub 2 9; Open 1; One c; Close 1; Done; Done; Done", 12},
		{"(?=a|b)", "Sub 1 6; Split 2 4; One a; Jump 5; One b; Done", 7},
	})
}

func TestP4P5Counts(t *testing.T) {
	expectCode(t, []coded{
		{"a{0}", "", 1}, {"a{0,0}b", "One b", 2}, {"a{1}", "One a", 2}, {"a{3}", "One a; One a; One a", 4}, {"a{3}?", "One a; One a; One a", 4}, {"(a){0}b", "One b", 2},
		{"a?", "Split 1 2; One a", 3}, {"a??", "Split 2 1; One a", 3}, {"a{0,1}", "Split 1 2; One a", 3},
		{"a{0,3}", "Split 1 6; One a; Split 3 6; One a; Split 5 6; One a", 7}, {"a{0,3}?", "Split 6 1; One a; Split 6 3; One a; Split 6 5; One a", 7}, {"a{2,3}b", "One a; One a; Split 3 4; One a; One b", 6},
		{"(a|b){1,2}", "Open 1; Split 2 4; One a; Jump 5; One b; Close 1; Split 7 13; Open 1; Split 9 11; One a; Jump 12; One b; Close 1", 14},
		{"(?:a?b){1,2}?", "Split 1 2; One a; One b; Split 7 4; Split 5 6; One a; One b", 8},
		{"(?:)?", "Split 1 1", 2}, {"(?:)??", "Split 1 1", 2}, {"(?:){1,3}", "Split 1 2; Split 2 2", 3}, {"(?:){0,3}?", "Split 3 1; Split 3 2; Split 3 3", 4},
		{"(?=a){2}", "Sub 1 3; One a; Done; Sub 1 6; One a; Done", 7},
		{"(?:a{2}b){2}", "One a; One a; One b; One a; One a; One b", 7},
	})
}

func TestP4P5Loops(t *testing.T) {
	expectCode(t, []coded{
		{"a*", "Split 1 4; Mark 0; One a; Again 0 0", 7}, {"a*?", "Split 4 1; Mark 0; One a; Again 0 0", 7}, {"a{0,}", "Split 1 4; Mark 0; One a; Again 0 0", 7},
		{"a+", "One a; Split 2 5; Mark 0; One a; Again 1 0", 8}, {"a+?", "One a; Split 5 2; Mark 0; One a; Again 1 0", 8}, {"a{2,}b", "One a; One a; Split 3 6; Mark 0; One a; Again 2 0; One b", 10},
		{"a{2,}?", "One a; One a; Split 6 3; Mark 0; One a; Again 2 0", 9}, {"(?:)*", "Split 1 3; Mark 0; Again 0 0", 5}, {"(?:){20,}", "Split 1 3; Mark 0; Again 0 0", 5},
		{"a*b*", "Split 1 4; Mark 0; One a; Again 0 0; Split 5 8; Mark 0; One b; Again 4 0", 13},
		{"(?:a*)*", "Split 1 7; Mark 0; Split 3 6; Mark 1; One a; Again 2 1; Again 0 0", 15},
		{"(?:a*b*?)*", "Split 1 11; Mark 0; Split 3 6; Mark 1; One a; Again 2 1; Split 10 7; Mark 1; One b; Again 6 1; Again 0 0", 25},
		{"(?:(?:a*)*)*", "Split 1 10; Mark 0; Split 3 9; Mark 1; Split 5 8; Mark 2; One a; Again 4 2; Again 2 1; Again 0 0", 26},
		{"(?:a*)+", "Split 1 4; Mark 0; One a; Again 0 0; Split 5 11; Mark 0; Split 7 10; Mark 1; One a; Again 6 1; Again 4 0", 21},
		{"(?:(?:a|b)*c)*", "Split 1 11; Mark 0; Split 3 9; Mark 1; Split 5 7; One a; Jump 8; One b; Again 2 1; One c; Again 0 0", 26},
		{"(?:a*){2}", "Split 1 4; Mark 0; One a; Again 0 0; Split 5 8; Mark 0; One a; Again 4 0", 13},
		{"(?:a*)?b*", "Split 1 5; Split 2 5; Mark 0; One a; Again 1 0; Split 6 9; Mark 0; One b; Again 5 0", 14},
		{"(?>a*)*", "Split 1 9; Mark 0; Sub 0 8; Split 4 7; Mark 1; One a; Again 3 1; Done; Again 0 0", 19},
	})
}

func TestP4P5Possessive(t *testing.T) {
	expectCode(t, []coded{
		{"a*+", "Sub 0 6; Split 2 5; Mark 0; One a; Again 1 0; Done", 9}, {"a++b", "Sub 0 7; One a; Split 3 6; Mark 0; One a; Again 2 0; Done; One b", 11},
		{"a{0}+", "Sub 0 2; Done", 3}, {"a{2}+", "Sub 0 4; One a; One a; Done", 5}, {"a{1,2}+", "Sub 0 5; One a; Split 3 4; One a; Done", 6}, {"a{1,}+", "Sub 0 7; One a; Split 3 6; Mark 0; One a; Again 2 0; Done", 10},
		{"(?:){20}+", "Sub 0 2; Done", 3}, {"(?:a?+){2}", "Sub 0 4; Split 2 3; One a; Done; Sub 0 8; Split 6 7; One a; Done", 9},
		{"(?:a*+)*", "Split 1 9; Mark 0; Sub 0 8; Split 4 7; Mark 1; One a; Again 3 1; Done; Again 0 0", 19},
		{"(?:a*)*+", "Sub 0 9; Split 2 8; Mark 0; Split 4 7; Mark 1; One a; Again 3 1; Again 1 0; Done", 17},
		{"(?>a)?+", "Sub 0 6; Split 2 5; Sub 0 5; One a; Done; Done", 7},
	})
}

// from gives all bytes from the first to the last.
func from(first int, last int) string {
	bytes := []byte{}
	for b := first; b <= last; b++ {
		bytes = append(bytes, byte(b))
	}
	return string(bytes)
}

func TestP4Sets(t *testing.T) {
	const digits = "0123456789"
	words := digits + from('A', 'Z') + "_" + from('a', 'z')
	sets := map[string]string{
		".": from(0, 255), `\d`: digits, `\w`: words, "]": "]", "}": "}", "-": "-", ",": ",", "\xff": "\xff", "\x00": "\x00", `\.`: ".", `\\`: `\`, "\\\xfe": "\xfe", "\\\x00": "\x00", `\_`: "_",
		"[a]": "a", "[ba]": "ab", "[aba]": "ab", "[d-fb-e]": "bcdef", "[a-a]": "a", "[a^]": "^a", "[^^]": from(0, '^'-1) + from('^'+1, 255), "[^b-y]": from(0, 'a') + from('z', 255), `[\^a]`: "^a",
		`[\d]`: digits, `[\w]`: words, `[\d\w]`: words, `[\d_]`: digits + "_", `[^\d]`: from(0, '0'-1) + from('9'+1, 255), `[\]\\\-]`: `-\]`, `[\--/]`: "-./", "[.]": ".", "[*-,]": "*+,",
		"[\x00-\xff]": from(0, 255), "[^\x00-\xff]": "", "[\xff\x80]": "\x80\xff", "[\xfe-\xff]": "\xfe\xff", "[^\x01-\xff]": "\x00", "[^\x00-\xfe]": "\xff", "[ \t]": "\t ", "[ä]": "\xa4\xc3",
	}
	for p, set := range sets {
		list, e := Code(p)
		if e != api.OK || !same(list, []api.Inst{{Op: api.One, Set: set}, {Op: api.Match}}) {
			t.Errorf("P4: Code(%q) = %+v, %d, want the set %q", p, list, e, set)
		}
		twice, e := Code("(?:" + p + "){2}")
		if e != api.OK || len(twice) != 3 || twice[0].Set != set || twice[1].Set != set {
			t.Errorf("P4: Code of %q twice is %+v, %d, want the set %q twice", p, twice, e, set)
		}
	}
	for b := 0; b < 256; b++ {
		own := string([]byte{byte(b)})
		for _, p := range []string{own, "\\" + own, "[" + own + "]", "[\\" + own + "]"} {
			list, e := Code(p)
			if e == api.OK && list[0].Op == api.One && len(list[0].Set) == 1 && list[0].Set != own {
				t.Errorf("P4: Code(%q) = %+v", p, list)
			}
		}
	}
}

func TestP4P5Refused(t *testing.T) {
	for _, c := range []checked{
		{strings.Repeat("a", 65), api.ErrLong, 0}, {`a\q`, api.ErrEscape, 0}, {"[z-a]", api.ErrClass, 0}, {"a{3,2}", api.ErrCount, 0}, {"x(?a)", api.ErrGroup, 0}, {`(a)\2`, api.ErrBack, 0}, {"a**", api.ErrRepeat, 0},
		{strings.Repeat("(?:", 11), api.ErrDeep, 0}, {strings.Repeat("()", 10), api.ErrMany, 0}, {")", api.ErrClose, 0}, {"a(b", api.ErrOpen, 0}, {"(?:a{20}){20}", api.ErrBig, 0},
		{"(?:(?:(?:(?:(?:(?:a{20}){20}){20}){20}){20}){20}){20}", api.ErrBig, 0}, {"(?:(?:(?:(?:(?:(?:)?){20}){20}){20}){20}){20}", api.ErrBig, 0},
	} {
		if list, e := Code(c.pattern); e != c.e || len(list) != 0 {
			t.Errorf("P4: Code(%q) has %d instructions and the error %d, want none and %d", c.pattern, len(list), e, c.e)
		}
		if weight, e := Weight(c.pattern); e != c.e || weight != 0 {
			t.Errorf("P5: Weight(%q) = %d, %d, want 0, %d", c.pattern, weight, e, c.e)
		}
	}
}

func TestP4P5LongestCode(t *testing.T) {
	for _, c := range []struct {
		part               string
		size, weight, most int // most: the instructions of all the pattern that there may be beside the part
	}{
		{"", 0, 0, 299}, {"a*", 4, 6, 295}, {"a|", 3, 3, 296}, {"(?>a)", 3, 3, 296}, {"a{0,20}", 40, 40, 259}, {"a++", 7, 9, 292},
	} {
		p := c.part + filler(c.most)
		list, e := Code(p)
		if e != api.OK || len(list) != 300 || list[299] != (api.Inst{Op: api.Match}) {
			t.Errorf("P4: Code(%q) has %d instructions, error %d, want 300", p, len(list), e)
		}
		if weight, e := Weight(p); e != api.OK || weight != c.weight+c.most+1 {
			t.Errorf("P5: Weight(%q) = %d, %d, want %d", p, weight, e, c.weight+c.most+1)
		}
		p = c.part + filler(c.most+1)
		if list, e := Code(p); e != api.ErrBig || len(list) != 0 {
			t.Errorf("P4: Code(%q) has %d instructions, error %d, want ErrBig", p, len(list), e)
		}
		if weight, e := Weight(p); e != api.ErrBig || weight != 0 {
			t.Errorf("P5: Weight(%q) = %d, %d, want ErrBig", p, weight, e)
		}
	}
}

func TestP5DeepLoops(t *testing.T) {
	p := "a"
	for depth := 1; depth <= api.MaxNest; depth++ {
		p = "(?:" + p + ")*"
		// The Mark with the number k stands in k loops, its Split too, its Again in k + 1.
		want := 1 + 1 + depth
		for k := 0; k < depth; k++ {
			want += 2*(1+k) + 1 + k + 1
		}
		if weight, e := Weight(p); e != api.OK || weight != want {
			t.Errorf("P5: Weight(%q) = %d, %d, want %d", p, weight, e, want)
		}
		list, _ := Code(p)
		if len(list) != 3*depth+2 || list[2*depth-1] != (api.Inst{Op: api.Mark, X: depth - 1}) {
			t.Errorf("P4: Code(%q) = %v, want the innermost Mark to have the number %d", p, list, depth-1)
		}
	}
}

func TestP1CodeOfNothingCostsNothing(t *testing.T) {
	begin := time.Now()
	for _, c := range []struct {
		inner, end string
		size       int
	}{
		{"", "", 1}, {"a{0}", "", 1}, {"", "a", 2}, {"(?:(?:a{20}){20}){0}", "", 1}, {"", "*", 4}, {"", "?", 2}, {"", "{0,20}", 21},
	} {
		p := c.inner
		for len(p)+8+len(c.end)+8 <= api.MaxPattern {
			p = "(?:" + p + "){20}"
		}
		p = "(?:" + p + ")" + c.end
		if list, e := Code(p); e != api.OK || len(list) != c.size {
			t.Errorf("P1: Code(%q) has %d instructions, error %d, want %d", p, len(list), e, c.size)
		}
		if _, e := Weight(p); e != api.OK {
			t.Errorf("P1: Weight(%q): error %d", p, e)
		}
	}
	if time.Since(begin) > 5*time.Second {
		t.Errorf("P1: repeats of nothing took %v", time.Since(begin))
	}
}

func TestP2CodeIsNewMemory(t *testing.T) {
	for _, p := range append([]string{"(a|b)*c{2,5}", "(?>a*)*", filler(299)}, wild...) {
		first, e := Code(p)
		want := fmt.Sprint(first, e)
		weight, _ := Weight(p)
		second, _ := Code(p)
		scribbled := first[:cap(first)]
		for i := range scribbled {
			scribbled[i] = api.Inst{Op: -1, X: -1, Y: -1, Set: "?"}
		}
		if got := fmt.Sprint(second, e); got != want {
			t.Errorf("P2: an answer of Code(%.70q) was changed by writing into another", p)
		}
		third, f := Code(p)
		if got := fmt.Sprint(third, f); got != want {
			t.Errorf("P2: Code(%.70q) = %s behind a change of its answer, and %s before", p, got, want)
		}
		if again, _ := Weight(p); again != weight {
			t.Errorf("P2: Weight(%.70q) = %d, and %d before", p, again, weight)
		}
	}
}

func TestP2CodeKeepsNothing(t *testing.T) {
	for _, before := range wild {
		Code(before)
		Weight(before)
		expectCode(t, []coded{{"(a*)b", "Open 1; Split 2 5; Mark 0; One a; Again 1 0; Close 1; One b", 10}, {"b", "One b", 2}})
	}
}
