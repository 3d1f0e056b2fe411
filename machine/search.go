// Package machine plays the code of a pattern on a text.
package machine

import "matcher/api"

// Task is what searches of one pattern in one text have in common.
type Task struct {
	Code   []api.Inst // one that code.Lay gave
	Chosen []int      // the instructions that code.Chosen gave
	Text   string
	Room   int
}

// Search searches the text from one of its positions on, or answers ErrBudget if that takes more steps than there may be.
func Search(t Task, from int, budget int) (api.Found, api.Errno) {
	p := player{code: t.Code, text: t.Text, budget: budget, table: newTable(t)}
	for start := from; start <= len(t.Text); start++ {
		first := firstState(start)
		end, ok := p.run(first)
		if p.spent() {
			return api.Found{}, api.ErrBudget
		}
		if ok {
			return match(start, end, p.steps), api.OK
		}
	}
	nothing := firstState(from)
	return api.Found{At: nothing.places, Steps: p.steps}, api.OK
}

// match is what is found when a run has come to Match.
func match(start int, end state, steps int) api.Found {
	found := api.Found{Ok: true, At: end.places, Steps: steps}
	found.At[0] = start
	found.At[1] = end.position
	return found
}

// SearchAll searches the text from 0 on, and behind each match again: it gives the matches and the steps of all searches together.
// It answers ErrBudget if these are more than there may be.
func SearchAll(t Task, budget int) ([]api.Found, int, api.Errno) {
	all := []api.Found{}
	steps := 0
	for from := 0; from <= len(t.Text); {
		found, e := Search(t, from, budget-steps)
		if e != api.OK {
			return nil, 0, e
		}
		steps += found.Steps
		if !found.Ok {
			break
		}
		all = append(all, found)
		from = nextFrom(found)
	}
	return all, steps, api.OK
}

// nextFrom tells from where to search behind a match: never from where it was searched before.
func nextFrom(found api.Found) int {
	if found.At[0] == found.At[1] {
		return found.At[1] + 1
	}
	return found.At[1]
}
