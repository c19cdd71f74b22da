package scan

import (
	"martello/api"
	"martello/trees"
)

// group reads how a group begins: its name, or its flags.
type group struct{ reader }

// takeFlags takes letters of flags, as many as stand next, and tells their sum; 0, if none does.
func (g *group) takeFlags() api.Flag {
	sum := api.Flag(0)
	for {
		switch {
		case g.take("i"):
			sum |= api.FlagFold
		case g.take("m"):
			sum |= api.FlagMulti
		case g.take("s"):
			sum |= api.FlagDot
		case g.take("U"):
			sum |= api.FlagSwap
		default:
			return sum
		}
	}
}

// isName: may a group have this name? It may, if a tree in which one has it is right.
func isName(name string) bool {
	nothing := []api.Tree{{Op: api.OpEmpty}}
	return name != "" && trees.Right(api.Tree{Op: api.OpCap, Cap: 1, Name: name, Kids: nothing})
}
