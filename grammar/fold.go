package grammar

import "predict/api"

// patience: so many nodes are handed in at every place where they stand. Beyond them what was made of a rule that is nothing is taken again at its other places (see enough): there can be some 17^11 of these, and Fold is to end.
const patience = 1000000

// made: what became of a node.
type made[T any] struct {
	it T
}

// Fold: a tree from below (P8).
func Fold[T any](t *Tree, leaf func(*api.Leaf) T, inner func(api.Node, []T) T) T {
	hand := handing(leaf, inner)
	known := map[*api.Rule]made[T]{}
	handed := 0
	var fold func(n api.Node) T
	fold = func(n api.Node) T {
		again := nothing(n)
		if m, ok := known[again]; ok && handed >= patience {
			return m.it
		}
		var list []T
		for _, x := range below(n) {
			list = append(list, fold(x))
		}
		handed++
		it := hand(copied(n), list)
		if again != nil {
			known[again] = made[T]{it}
		}
		return it
	}
	if n := t.top(); n != nil {
		return fold(n)
	}
	var none T
	return none
}

// handing: a node to leaf or to inner, whichever it is for. If there is no such function, it becomes T's zero value: no call panics.
func handing[T any](leaf func(*api.Leaf) T, inner func(api.Node, []T) T) func(api.Node, []T) T {
	return func(n api.Node, list []T) T {
		x, isLeaf := n.(*api.Leaf)
		switch {
		case isLeaf && leaf != nil:
			return leaf(x)
		case !isLeaf && inner != nil:
			return inner(n, list)
		}
		var none T
		return none
	}
}
