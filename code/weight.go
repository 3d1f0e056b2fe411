package code

import "matcher/api"

// Weight tells the weight of a code that Lay gave.
func Weight(list []api.Inst) int {
	weight := 0
	loops := 0
	for _, in := range list {
		weight += 1 + loops
		// A Mark stands before its loop, an Again in it.
		switch in.Op {
		case api.Mark:
			loops++
		case api.Again:
			loops--
		}
	}
	return weight
}
