package grammar

import "predict/api"

// Tree: of an input. Its nodes are never handed out, only copies of them.
type Tree struct {
	root api.Node
}

// top: the tree's own uppermost node; nil, of no tree.
func (t *Tree) top() api.Node {
	if t == nil {
		return nil
	}
	return t.root
}

// below: the nodes right below one, from left to right.
func below(n api.Node) []api.Node {
	switch x := n.(type) {
	case *api.Rule:
		return []api.Node{x.Body}
	case *api.Row:
		return x.Parts
	case *api.Pick:
		return []api.Node{x.Body}
	case *api.Maybe:
		if x.Body != nil {
			return []api.Node{x.Body}
		}
	case *api.Many:
		return x.Items
	}
	return nil
}

// nothing: a node as a rule that has become nothing; nil, if it is none. No other node stands in several places of a tree (see enough).
func nothing(n api.Node) *api.Rule {
	if r, ok := n.(*api.Rule); ok && r.From == r.To {
		return r
	}
	return nil
}

// Root: its uppermost node (P6).
func (t *Tree) Root() api.Node { return copied(t.top()) }

// copied: a node and all below it, anew.
func copied(n api.Node) api.Node { return copies{}.of(n) }

// copies: of nodes that stand in several places, so that each stays one.
type copies map[*api.Rule]api.Node

func (c copies) of(n api.Node) api.Node {
	r := nothing(n)
	if r == nil {
		return c.fresh(n)
	}
	if c[r] == nil {
		c[r] = c.fresh(n)
	}
	return c[r]
}

func (c copies) fresh(n api.Node) api.Node {
	switch x := n.(type) {
	case *api.Leaf:
		return &api.Leaf{Words: x.Words, Word: x.Word}
	case *api.Rule:
		return &api.Rule{Words: x.Words, Name: x.Name, Body: c.of(x.Body)}
	case *api.Row:
		return &api.Row{Words: x.Words, Parts: c.list(x.Parts)}
	case *api.Pick:
		return &api.Pick{Words: x.Words, Index: x.Index, Body: c.of(x.Body)}
	case *api.Maybe:
		return &api.Maybe{Words: x.Words, Body: c.of(x.Body)}
	case *api.Many:
		return &api.Many{Words: x.Words, Items: c.list(x.Items)}
	}
	return nil
}

func (c copies) list(l []api.Node) []api.Node {
	var out []api.Node
	for _, n := range l {
		out = append(out, c.of(n))
	}
	return out
}
