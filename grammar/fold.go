package grammar

import "predict/api"

// Fold: a tree from below (P8). A node that stands in several places (see enough) is handed in at each of them, however many these are: what becomes of it may differ from call to call.
func Fold[T any](t *Tree, leaf func(*api.Leaf) T, inner func(api.Node, []T) T) T {
	hand := handing(leaf, inner)
	var fold func(n api.Node) T
	fold = func(n api.Node) T {
		var list []T
		for _, x := range below(n) {
			list = append(list, fold(x))
		}
		return hand(copied(n), list)
	}
	if n := t.top(); n != nil {
		return fold(n)
	}
	var none T
	return none
}

// handing: a node to leaf or to inner, whichever it is for. If there is no such function, it becomes T's zero value: no call panics.
func handing[T any](leaf func(*api.Leaf) T, inner func(api.Node, []T) T) func(api.Node, []T) T {
	return func(n api.Node, list []T) T {
		x, isLeaf := n.(*api.Leaf)
		switch {
		case isLeaf && leaf != nil:
			return leaf(x)
		case !isLeaf && inner != nil:
			return inner(n, list)
		}
		var none T
		return none
	}
}
