package field

import (
	"iter"

	"buchholz/api"
)

// perNode is a number for each node. Nodes that a network does not have are nodes without branches.
type perNode [api.MaxFieldNodes]int

// forest is a set of branches that form no loop.
type forest struct {
	lowest     perNode // the lowest node of the part of each node
	potentials perNode // if no branch of it had a flux; that of the lowest node of each part is 0
	weight     int     // the product of the reluctances of all branches that are not in it
}

// bareForest returns the forest without branches, of a network without branches.
func bareForest() forest {
	f := forest{weight: 1}
	for i := range f.lowest {
		f.lowest[i] = i
	}
	return f
}

// joins adds a branch to a forest, and returns whether it forms no loop. If it does, the forest stays as it is.
func (f *forest) joins(b api.FieldBranch) bool {
	kept, moved := f.lowest[b.From], f.lowest[b.To]
	if kept == moved {
		return false
	}
	by := f.potentials[b.From] + b.Turns - f.potentials[b.To]
	if moved < kept {
		kept, moved, by = moved, kept, -by
	}
	for i, lowest := range f.lowest {
		if lowest == moved {
			f.lowest[i] = kept
			f.potentials[i] += by
		}
	}
	return true
}

// partsIn returns the lowest node of the part of each node.
func partsIn(n api.FieldNet) perNode {
	f := bareForest()
	for _, b := range n.Branches {
		f.joins(b)
	}
	return f.lowest
}

// forestFrom returns the forest of the branches whose bits are set, and whether it is one.
func forestFrom(n api.FieldNet, set int) (forest, bool) {
	f := bareForest()
	for i, b := range n.Branches {
		if set>>i&1 == 0 {
			f.weight *= b.Reluctance
		} else if !f.joins(b) {
			return forest{}, false
		}
	}
	return f, true
}

// forestsOf yields all forests that connect what the network connects.
func forestsOf(n api.FieldNet) iter.Seq[forest] {
	return func(yield func(forest) bool) {
		parts := partsIn(n)
		for set := range 1 << len(n.Branches) {
			f, is := forestFrom(n, set)
			if is && f.lowest == parts && !yield(f) {
				return
			}
		}
	}
}

// PartsOf returns the nodes of all parts.
func PartsOf(n api.FieldNet) ([][]int, api.Errno) {
	if e := errorOf(CheckNet(n)); e != api.OK {
		return nil, e
	}
	var nodes [api.MaxFieldNodes][]int
	for i, lowest := range partsIn(n) {
		if i < n.Nodes {
			nodes[lowest] = append(nodes[lowest], i)
		}
	}
	var parts [][]int
	for _, l := range nodes {
		if len(l) > 0 {
			parts = append(parts, l)
		}
	}
	return parts, api.OK
}
