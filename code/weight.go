package code

import "matcher/api"

// Weight tells the weight of a code that Lay gave.
func Weight(list []api.Inst) int {
	weight := 0
	for _, loops := range Loops(list) {
		weight += 1 + loops
	}
	return weight
}
