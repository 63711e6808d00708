package grammar

import "predict/api"

// Walk: a tree's nodes, each ahead of those below it, with how deep they stand (P7).
func (t *Tree) Walk() func(yield func(int, api.Node) bool) {
	return func(yield func(int, api.Node) bool) {
		if n := t.top(); n != nil && yield != nil {
			tellFrom(n, 0, yield)
		}
	}
}

// tellFrom: a node and all below it; whether more is wanted behind them. Each is copied by itself as it is told: so what yield changes in one is not seen in a later one, and no more is copied than is told.
func tellFrom(n api.Node, deep int, yield func(int, api.Node) bool) bool {
	if !yield(deep, copied(n)) {
		return false
	}
	for _, x := range below(n) {
		if !tellFrom(x, deep+1, yield) {
			return false
		}
	}
	return true
}
