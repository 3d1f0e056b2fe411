package matcher

import (
	"math/rand"
	"regexp"
	"strconv"
	"strings"
	"testing"

	"matcher/api"
)

// The model answers what Check must, for ASCII patterns, told in another way: tokens are regular expressions,
// and the sizes of codes are not limited while they are added up.

const classByte = `(?:[^\\\]\-]|\\[^A-Za-z0-9])`
const classItem = `(?:\\[dw]|` + classByte + `-` + classByte + `|` + classByte + `)`

var (
	modelOpening = regexp.MustCompile(`^\((?:\?[:>=!])?`)
	modelRepeat  = regexp.MustCompile(`^(?:[*+?]|\{([0-9]{1,2})(,?)([0-9]{0,2})\})([?+]?)`)
	modelNegated = regexp.MustCompile(`(?s)^\[\^` + classItem + `+\]`)
	modelClass   = regexp.MustCompile(`(?s)^\[` + classItem + `+\]`)
	modelRange   = regexp.MustCompile(`(?s)` + classItem)
	modelEscape  = regexp.MustCompile(`(?s)^\\[^A-Za-ce-vx-z0]`)
)

// modelToken gives a token's text, or its error.
func modelToken(p string) (string, api.Errno) {
	switch p[0] {
	case '(':
		if s := modelOpening.FindString(p); s != "(" || !strings.HasPrefix(p, "(?") {
			return s, api.OK
		}
		return "", api.ErrGroup
	case '*', '+', '?':
		return modelRepeat.FindString(p), api.OK
	case '{':
		m := modelRepeat.FindStringSubmatch(p)
		if m == nil || m[2] == "" && m[3] != "" {
			return "", api.ErrCount
		}
		if n, most := modelCount(m); n > 20 || most > 20 || most >= 0 && n > most {
			return "", api.ErrCount
		}
		return m[0], api.OK
	case '[':
		return modelClassToken(p)
	case '\\':
		if s := modelEscape.FindString(p); s != "" {
			return s, api.OK
		}
		return "", api.ErrEscape
	}
	return p[:1], api.OK
}

func modelClassToken(p string) (string, api.Errno) {
	form, begin := modelClass, 1
	if strings.HasPrefix(p, "[^") {
		form, begin = modelNegated, 2
	}
	s := form.FindString(p)
	if s == "" {
		return "", api.ErrClass
	}
	for _, item := range modelRange.FindAllString(s[begin:len(s)-1], -1) {
		low, high, two := item[0], item[len(item)-1], len(item) >= 3
		if item[0] == '\\' {
			low, two = item[1], len(item) > 2
		}
		if two && low > high {
			return "", api.ErrClass
		}
	}
	return s, api.OK
}

// modelCount gives a repeat's bounds, the second -1 if there is none.
func modelCount(m []string) (int, int) {
	switch m[0][0] {
	case '*':
		return 0, -1
	case '+':
		return 1, -1
	case '?':
		return 0, 1
	}
	n, _ := strconv.Atoi(m[1])
	if m[2] == "" {
		return n, n
	}
	if m[3] == "" {
		return n, -1
	}
	most, _ := strconv.Atoi(m[3])
	return n, most
}

// modelGroup is a group that is open, or the whole pattern.
type modelGroup struct {
	opening string
	number  int
	done    int // instructions that can't be repeated any more, but as part of the group
	atom    int // those of the atom before, -1 if there is none
}

func (g *modelGroup) put(size int) {
	if g.atom > 0 {
		g.done += g.atom
	}
	g.atom = size
}

func modelCheck(p string) (api.Errno, int) {
	if len(p) > 64 {
		return api.ErrLong, 0
	}
	groups, closed, open := 0, map[int]bool{}, []modelGroup{{opening: "(?:", atom: -1}}
	for at := 0; at < len(p); {
		s, e := modelToken(p[at:])
		if e != api.OK {
			return e, at
		}
		in := &open[len(open)-1]
		switch {
		case s == "|":
			in.put(-1)
			in.done += 2
		case s[0] == '(':
			if len(open) > 10 {
				return api.ErrDeep, at
			}
			number := 0
			if s == "(" {
				if groups++; groups > 9 {
					return api.ErrMany, at
				}
				number = groups
			}
			open = append(open, modelGroup{s, number, 0, -1})
		case s == ")":
			if len(open) == 1 {
				return api.ErrClose, at
			}
			in.put(-1)
			if in.opening != "(?:" {
				in.done += 2
			}
			closed[in.number] = true
			open[len(open)-2].put(in.done)
			open = open[:len(open)-1]
		case strings.ContainsAny(s[:1], "*+?{"):
			if in.atom < 0 {
				return api.ErrRepeat, at
			}
			modelRepeated(in, modelRepeat.FindStringSubmatch(s))
		case s[0] == '\\' && s[1] >= '1' && s[1] <= '9':
			if !closed[int(s[1]-'0')] {
				return api.ErrBack, at
			}
			in.put(1)
		default:
			in.put(1)
		}
		at += len(s)
	}
	if len(open) > 1 {
		return api.ErrOpen, len(p)
	}
	open[0].put(-1)
	if open[0].done+1 > 300 {
		return api.ErrBig, 0
	}
	return api.OK, 0
}

func modelRepeated(in *modelGroup, m []string) {
	n, most := modelCount(m)
	for i := 0; i < n; i++ {
		in.done += in.atom
	}
	for i := n; i < most; i++ {
		in.done += in.atom + 1
	}
	if most < 0 {
		in.done += in.atom + 3
	}
	if m[4] == "+" {
		in.done += 2
	}
	in.atom = -1
}

func compare(t *testing.T, p string) api.Errno {
	t.Helper()
	e, at := Check(p)
	wantE, wantAt := modelCheck(p)
	if e != wantE || at != wantAt {
		t.Fatalf("P3: Check(%q) = %d, %d, want %d, %d", p, e, at, wantE, wantAt)
	}
	return e
}

// every calls compare with all rows of so many of the parts.
func every(t *testing.T, before string, parts []string, n int) {
	compare(t, before)
	if n == 0 {
		return
	}
	for _, part := range parts {
		every(t, before+part, parts, n-1)
	}
}

func TestP3EveryShortPattern(t *testing.T) {
	every(t, "", strings.Split(`a|()?:*+{}1,[]^-\d`, ""), 4)
	every(t, "[", strings.Split(`ab]^-\dq`, ""), 5)
	every(t, "a{", strings.Split(`0123,}?+`, ""), 5)
	every(t, "", []string{"a", "(", "(?:", "(?>", ")", "|", "*", "?", "+", "{3}", "{0}", "{2,}", `\1`}, 5)
}

// maker makes up patterns, the same ones each time.
type maker struct {
	*rand.Rand
}

func (m maker) of(l ...string) string {
	return l[m.Intn(len(l))]
}

func (m maker) alternatives(depth int) string {
	s := ""
	for m.Intn(4) > 0 && len(s) < 40 {
		s += m.atom(depth)
		if m.Intn(2) == 0 {
			s += m.of("*", "+", "?", "{20}", "{0}", "{2,5}", "{3,}", "{0,20}") + m.of("", "", "?", "+")
		}
		if m.Intn(6) == 0 {
			s += "|"
		}
	}
	return s
}

func (m maker) atom(depth int) string {
	if depth > 0 && m.Intn(2) == 0 {
		return m.of("(", "(", "(?:", "(?>", "(?=", "(?!") + m.alternatives(depth-1) + ")"
	}
	return m.of("a", "b", ".", "^", "$", `\1`, `\2`, `\d`, `\w`, `\.`, "[a-c]", "[cab-d]", `[^\]]`, `[^\--\]\d]`)
}

// spoil changes a byte, or takes one out, or puts one in.
func (m maker) spoil(p string) string {
	at := m.Intn(len(p) + 1)
	end := at + m.Intn(2)
	if end > len(p) {
		end = len(p)
	}
	return p[:at] + m.of("", "a", "(", ")", "(?", "[", "]", "{", "}", "\\", "*", "|", "-", "^", "1") + p[end:]
}

func TestP3MadeUpPatterns(t *testing.T) {
	m := maker{rand.New(rand.NewSource(1))}
	seen := map[api.Errno]int{}
	for i := 0; i < 200000; i++ {
		p := m.of("", "", strings.Repeat("()", 8)) + m.alternatives(4)
		if m.Intn(3) == 0 {
			p = strings.Repeat("(?:", 8) + p + strings.Repeat(")", 8)
		}
		seen[compare(t, p)]++
		seen[compare(t, m.spoil(p))]++
	}
	for e := api.OK; e <= api.ErrBig; e++ {
		if seen[e] < 10 {
			t.Errorf("too few patterns with the error %d were made up: %v", e, seen)
		}
	}
}
