package trees

import "martello/api"

// heavy is the weight of all that is heavier than a tree may be.
const heavy = api.MaxWeight + 1

// Weight is how great a program may be that does it, of any tree: at most one more than MaxWeight.
func Weight(t api.Tree) int {
	switch t.Op {
	case api.OpCap:
		return min(2+weightOfKids(t), heavy)
	case api.OpStar, api.OpPlus, api.OpQuest, api.OpCat:
		return min(1+weightOfKids(t), heavy)
	case api.OpRepeat:
		n := min(max(t.Min, t.Max, 1), heavy) // so that no product is more than an int holds
		return min(n*weightOfKids(t)+n+1, heavy)
	case api.OpAlt:
		return min(weightOfKids(t)+len(t.Kids), heavy)
	}
	return 1
}

// weightOfKids is the sum of all. It ends where that is heavy: Kids may be shared, and more than could be gone through.
func weightOfKids(t api.Tree) int {
	sum := 0
	for _, kid := range t.Kids {
		sum += Weight(kid)
		if sum >= heavy {
			return heavy
		}
	}
	return sum
}
