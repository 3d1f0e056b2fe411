package matcher

import (
	"strings"
	"testing"

	"matcher/api"
)

// wild has patterns and texts of all sorts, right and wrong.
var wild = []string{
	"", "a", "a*", "(a|b)*c", `(.)\1`, "(?:){20}", "(?=a)b|", "\x00", "\xff\xfe", "ä", "(", ")", "*", "[", "{", "\\", "(?", `\1`, "a{21}", "[b-a]", "(?:a{20}){20}",
	strings.Repeat("a", 60), strings.Repeat("a", 61), strings.Repeat("(", 64), strings.Repeat("a", 65), strings.Repeat("\\", 1000000),
}

var wildNumbers = []int{-1 << 63, -1 << 31, -1, 0, 1, 4, 5, 60, 61, 10000, 10001, 4294967295, 4294967296, 1<<63 - 1}

func TestP1EveryCallEnds(t *testing.T) {
	for _, p := range wild {
		Check(p)
		Code(p)
		Weight(p)
		for _, n := range wildNumbers {
			for _, m := range wildNumbers {
				Chosen(p, n, m)
				o := api.Options{Policy: n, Mask: m, Room: m, Budget: n}
				for _, text := range wild {
					Find(p, text, n, o)
					FindAll(p, text, o)
				}
			}
		}
	}
}

func TestP1EveryTwoBytes(t *testing.T) {
	for a := 0; a < 256; a++ {
		for b := 0; b < 256; b++ {
			p := string([]byte{byte(a), byte(b)})
			for _, before := range []string{"", "a", "[", "[a", "[a-", "a{", "a{1", "a{1,", "(?", "(?:"} {
				e, at := Check(before + p)
				if e < api.OK || e > api.ErrBig || at < 0 || at > len(before)+2 || e == api.OK && at != 0 {
					t.Fatalf("P1: Check(%q) = %d, %d", before+p, e, at)
				}
			}
		}
	}
}

func TestP1NoPlaceBesideOK(t *testing.T) {
	expect(t, "P1", []checked{{"", api.OK, 0}, {"(a)(b)|c*", api.OK, 0}, {strings.Repeat("a", 65), api.ErrLong, 0}, {"ab(?:a{20}){20}", api.ErrBig, 0}})
}

func TestP2NothingIsKept(t *testing.T) {
	type answer struct {
		e  api.Errno
		at int
	}
	first := make([]answer, len(wild))
	for i, p := range wild {
		first[i].e, first[i].at = Check(p)
	}
	for _, before := range wild {
		for i, p := range wild {
			Check(before)
			if e, at := Check(p); e != first[i].e || at != first[i].at {
				t.Errorf("P2: Check(%.70q) = %d, %d behind Check(%.70q), and %d, %d before", p, e, at, before, first[i].e, first[i].at)
			}
		}
	}
	expect(t, "P2", []checked{
		{"(a", api.ErrOpen, 2}, {"a)", api.ErrClose, 1}, {"(a)", api.OK, 0}, {`\1`, api.ErrBack, 0}, {strings.Repeat("()", 9), api.OK, 0}, {"()", api.OK, 0}, {`\9`, api.ErrBack, 0}, {"a", api.OK, 0}, {"*", api.ErrRepeat, 0},
	})
}
