package code

import "matcher/api"

// maskBits: instructions whose numbers are so far apart share a bit of the mask.
const maskBits = 32

// Chosen gives the numbers of the instructions that are chosen, of a code that Lay gave, rising.
// The policy and the mask are within their bounds.
func Chosen(list []api.Inst, policy int, mask int) []int {
	chosen := []int{}
	if hasBack(list) {
		return chosen
	}
	picked := pick(list, policy, mask)
	behind := 0 // the number of the instruction behind the latest sub-run
	for i, in := range list {
		if i < behind {
			continue
		}
		if in.Op == api.Sub {
			behind = in.Y
		}
		if picked[i] {
			chosen = append(chosen, i)
		}
	}
	return chosen
}

// hasBack tells whether what becomes of a state may hang on its groups, which do not count when two states are alike.
func hasBack(list []api.Inst) bool {
	for _, in := range list {
		if in.Op == api.Back {
			return true
		}
	}
	return false
}

// pick tells which instructions a policy names, be it in sub-runs or not.
func pick(list []api.Inst, policy int, mask int) []bool {
	switch policy {
	case api.Every:
		return pickMasked(list, api.MaxMask)
	case api.Heads:
		return pickHeads(list)
	case api.Joins:
		return pickJoins(list)
	case api.Masked:
		return pickMasked(list, mask)
	}
	return make([]bool, len(list))
}

func pickMasked(list []api.Inst, mask int) []bool {
	picked := make([]bool, len(list))
	for i := range list {
		picked[i] = mask>>(i%maskBits)&1 == 1
	}
	return picked
}

func pickHeads(list []api.Inst) []bool {
	picked := make([]bool, len(list))
	for _, in := range list {
		if in.Op == api.Again {
			picked[in.X] = true
		}
	}
	return picked
}

func pickJoins(list []api.Inst) []bool {
	picked := make([]bool, len(list))
	for i, leads := range leadsTo(list) {
		picked[i] = leads >= 2
	}
	return picked
}

// leadsTo tells of each instruction how many lead to it.
func leadsTo(list []api.Inst) []int {
	leads := make([]int, len(list))
	for i, in := range list {
		switch in.Op {
		case api.Split:
			leads[in.X]++
			if in.Y != in.X {
				leads[in.Y]++
			}
		case api.Jump, api.Again:
			leads[in.X]++
		case api.Sub:
			leads[in.Y]++
		case api.Done, api.Match:
			// They lead nowhere.
		default:
			leads[i+1]++
		}
	}
	return leads
}
