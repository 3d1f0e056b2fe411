package tree

import (
	"strconv"
	"testing"

	"matcher/api"
	"matcher/token"
)

// show writes alternatives so that what stands in what can be seen: a letter for each kind of atom, <> around groups.
func show(t Tree, first int) string {
	s := ""
	for at := first; at != None; at = t.Sequences[at].Next {
		if at != first {
			s += "|"
		}
		for a := t.Sequences[at].First; a != None; a = t.Atoms[a].Next {
			if t.Atoms[a].Home != at {
				s += "!"
			}
			s += showAtom(t, t.Atoms[a])
		}
	}
	return s
}

func showAtom(t Tree, a Atom) string {
	s := ""
	switch a.Token.Kind {
	case token.Open:
		s = "<" + strconv.Itoa(a.Token.Group) + "#" + strconv.Itoa(a.Number) + ":" + show(t, a.Body) + ">"
	case token.Back:
		s = "k" + strconv.Itoa(a.Token.Number)
	default:
		s = string("?????bkht"[a.Token.Kind])
	}
	if a.Repeat.Kind == token.Repeat {
		s += "{" + strconv.Itoa(a.Repeat.Least) + "," + strconv.Itoa(a.Repeat.Most) + "," + strconv.Itoa(a.Repeat.Mood) + "}"
	}
	return s
}

func TestBuild(t *testing.T) {
	for _, c := range []struct{ pattern, want string }{
		{"", ""},
		{"|", "|"},
		{"a|b.|", "b|bb|"},
		{"^a$", "hbt"},
		{"(a|b)c", "<1#1:b|b>b"},
		{"()(?:)(?>)(?=)(?!)()", "<1#1:><2#0:><3#0:><4#0:><5#0:><1#2:>"},
		{"((a)(b))(c)", "<1#1:<1#2:b><1#3:b>><1#4:b>"},
		{`(a)|\1`, "<1#1:b>|k1"},
		{"a*b+?c?+", "b{0,-1,1}b{1,-1,2}b{0,1,3}"},
		{"(?:a{2}|b){3,4}c", "<2#0:b{2,2,1}|b>{3,4,1}b"},
		{"(?:a|(?:b|c)d|e)f", "<2#0:b|<2#0:b|b>b|b>b"},
	} {
		got, e, at := Build(c.pattern)
		if e != api.OK || at != 0 {
			t.Errorf("Build(%q): error %d at %d", c.pattern, e, at)
			continue
		}
		if s := show(got, 0); s != c.want {
			t.Errorf("Build(%q) is %s, want %s", c.pattern, s, c.want)
		}
	}
}

func TestBuildRefuses(t *testing.T) {
	for _, p := range []string{"a**", "(", ")", `\1`, "[", `ab\`, "(?x)"} {
		got, e, _ := Build(p)
		if e == api.OK || len(got.Sequences) != 0 || len(got.Atoms) != 0 {
			t.Errorf("Build(%q) = %+v, %d, want an error and no tree", p, got, e)
		}
	}
}
