package grammar

import "predict/api"

// Tree: of an input. Its nodes are never handed out, only copies of them.
type Tree struct {
	root api.Node
}

// Root: its uppermost node (P6).
func (t *Tree) Root() api.Node {
	if t == nil {
		return nil
	}
	return copies{}.of(t.root)
}

// copies: of nodes. Each is copied once, so that one that stands in many places stays one.
type copies map[api.Node]api.Node

func (c copies) of(n api.Node) api.Node {
	if _, ok := c[n]; !ok {
		c[n] = c.fresh(n)
	}
	return c[n]
}

func (c copies) fresh(n api.Node) api.Node {
	switch x := n.(type) {
	case *api.Leaf:
		return &api.Leaf{Words: x.Words, Word: x.Word}
	case *api.Rule:
		return &api.Rule{Words: x.Words, Name: x.Name, Body: c.of(x.Body)}
	case *api.Row:
		return &api.Row{Words: x.Words, Parts: c.list(x.Parts)}
	case *api.Pick:
		return &api.Pick{Words: x.Words, Index: x.Index, Body: c.of(x.Body)}
	case *api.Maybe:
		return &api.Maybe{Words: x.Words, Body: c.of(x.Body)}
	case *api.Many:
		return &api.Many{Words: x.Words, Items: c.list(x.Items)}
	}
	return nil
}

func (c copies) list(l []api.Node) []api.Node {
	var out []api.Node
	for _, n := range l {
		out = append(out, c.of(n))
	}
	return out
}

// Walk: a tree's nodes, each ahead of those below it, with how deep they stand (P7).
func (t *Tree) Walk() func(yield func(int, api.Node) bool) {
	return func(yield func(int, api.Node) bool) {}
}

// Fold: a tree from below (P8).
func Fold[T any](t *Tree, leaf func(*api.Leaf) T, inner func(api.Node, []T) T) T {
	var none T
	return none
}
