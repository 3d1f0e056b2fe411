package code

import "matcher/api"

// Loops tells of each instruction of a code that Lay gave in how many loops it stands.
func Loops(list []api.Inst) []int {
	all := make([]int, len(list))
	loops := 0
	for i, in := range list {
		all[i] = loops
		// A Mark stands before its loop, an Again in it.
		switch in.Op {
		case api.Mark:
			loops++
		case api.Again:
			loops--
		}
	}
	return all
}
