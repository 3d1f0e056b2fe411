// Package matcher: patterns that are searched for by trying, and a table that spares tries: see DOC.md.
package matcher

import (
	"matcher/api"
	"matcher/code"
	"matcher/machine"
	"matcher/tree"
)

// Check tells whether a text is a pattern (P3).
func Check(pattern string) (api.Errno, int) {
	_, e, at := read(pattern)
	return e, at
}

// read gives the tree of a pattern that has a code, or what Check answers.
func read(pattern string) (tree.Tree, api.Errno, int) {
	whole, e, at := tree.Build(pattern)
	if e != api.OK {
		return tree.Tree{}, e, at
	}
	if code.Size(whole) > api.MaxCode {
		return tree.Tree{}, api.ErrBig, 0
	}
	return whole, api.OK, 0
}

// Code gives the code of a pattern (P4).
func Code(pattern string) ([]api.Inst, api.Errno) {
	whole, e, _ := read(pattern)
	if e != api.OK {
		return nil, e
	}
	return code.Lay(whole), api.OK
}

// Weight tells the weight of a pattern's code (P5).
func Weight(pattern string) (int, api.Errno) {
	list, e := Code(pattern)
	if e != api.OK {
		return 0, e
	}
	return code.Weight(list), api.OK
}

// Chosen tells which instructions go into the table (P8).
func Chosen(pattern string, policy int, mask int) ([]int, api.Errno) {
	list, e := Code(pattern)
	if e != api.OK {
		return nil, e
	}
	if !isChoice(policy, mask) {
		return nil, api.ErrArg
	}
	return code.Chosen(list, policy, mask), api.OK
}

// isChoice tells whether a policy and a mask are within their bounds.
func isChoice(policy int, mask int) bool {
	return policy >= api.None && policy <= api.Masked && mask >= 0 && mask <= api.MaxMask
}

// Find searches a text from a position on (P6).
func Find(pattern string, text string, from int, o api.Options) (api.Found, api.Errno) {
	t, e := prepare(pattern, text, o)
	if e != api.OK {
		return api.Found{}, e
	}
	if from < 0 || from > len(text) {
		return api.Found{}, api.ErrArg
	}
	return machine.Search(t, from, o.Budget)
}

// prepare gives what has to be searched for and how, or the error of all searches with these arguments.
func prepare(pattern string, text string, o api.Options) (machine.Task, api.Errno) {
	list, e := Code(pattern)
	if e != api.OK {
		return machine.Task{}, e
	}
	if len(text) > api.MaxText {
		return machine.Task{}, api.ErrLong
	}
	if !isChoice(o.Policy, o.Mask) || o.Room < 0 || o.Room > api.MaxRoom || o.Budget < 0 || o.Budget > api.MaxBudget {
		return machine.Task{}, api.ErrArg
	}
	chosen := code.Chosen(list, o.Policy, o.Mask)
	return machine.Task{Code: list, Chosen: chosen, Text: text, Room: o.Room}, api.OK
}

// FindAll searches a text again and again (P11).
func FindAll(pattern string, text string, o api.Options) ([]api.Found, int, api.Errno) {
	t, e := prepare(pattern, text, o)
	if e != api.OK {
		return nil, 0, e
	}
	return machine.SearchAll(t, o.Budget)
}
