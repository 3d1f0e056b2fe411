// Package machine plays the code of a pattern on a text.
package machine

import "matcher/api"

// Search searches a text from a position on, or answers ErrBudget if that takes more steps than there may be.
// The code is one that code.Lay gave, and the position is one of the text.
func Search(code []api.Inst, text string, from int, budget int) (api.Found, api.Errno) {
	p := player{code: code, text: text, budget: budget}
	for start := from; start <= len(text); start++ {
		first := firstState(start)
		end, ok := p.run(first)
		if p.spent() {
			return api.Found{}, api.ErrBudget
		}
		if ok {
			return match(start, end, p.steps), api.OK
		}
	}
	nothing := firstState(from)
	return api.Found{At: nothing.places, Steps: p.steps}, api.OK
}

// match is what is found when a run has come to Match.
func match(start int, end state, steps int) api.Found {
	found := api.Found{Ok: true, At: end.places, Steps: steps}
	found.At[0] = start
	found.At[1] = end.position
	return found
}
