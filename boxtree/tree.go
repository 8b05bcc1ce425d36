// Package boxtree: features in a tree of boxes.
package boxtree

import (
	"cmp"
	"iter"
	"slices"

	"atlas/api"
	"atlas/shape"
)

// mostKids is how many nodes may lie in a node.
const mostKids = 4

// Tree holds features. It never changes: With and Without make another tree, so
// that whoever has a tree may go on reading it. The tree without a value is empty.
type Tree struct {
	root *node
}

// A node has either kids or a feature; all features are equally deep.
type node struct {
	box     shape.Box
	kids    []*node
	feature api.Feature
}

// With is the tree with f in it too, whose places it shares.
func (t Tree) With(f api.Feature) Tree {
	leaf := &node{box: shape.BoxOf(f.Places...), feature: f}
	if t.root == nil {
		return Tree{over([]*node{leaf})}
	}
	parts := t.root.with(leaf)
	if len(parts) == 1 {
		return Tree{parts[0]}
	}
	return Tree{over(parts)}
}

// Without is the tree without the feature of this number, if it is there.
func (t Tree) Without(id int) Tree {
	// The rest is put in anew: nodes that are left with few kids would make the tree deep.
	var rest Tree
	for f := range t.All() {
		if f.Id != id {
			rest = rest.With(f)
		}
	}
	return rest
}

// Find is the feature of this number, and whether it is there.
func (t Tree) Find(id int) (api.Feature, bool) {
	for f := range t.All() {
		if f.Id == id {
			return f, true
		}
	}
	return api.Feature{}, false
}

// Count is how many features there are.
func (t Tree) Count() int {
	n := 0
	for range t.All() {
		n++
	}
	return n
}

// All gives all features, in no order to rely on.
func (t Tree) All() iter.Seq[api.Feature] {
	if t.root == nil {
		return t.Meeting(shape.Box{})
	}
	return t.Meeting(t.root.box)
}

// Meeting gives the features whose boxes meet the box, in no order to rely on.
func (t Tree) Meeting(box shape.Box) iter.Seq[api.Feature] {
	return func(yield func(api.Feature) bool) {
		if t.root != nil {
			t.root.each(box, yield)
		}
	}
}

// each tells whether to go on.
func (n *node) each(box shape.Box, yield func(api.Feature) bool) bool {
	if !n.box.Meets(box) {
		return true
	}
	if n.kids == nil {
		return yield(n.feature)
	}
	for _, kid := range n.kids {
		if !kid.each(box, yield) {
			return false
		}
	}
	return true
}

// with is what stands in n's place once it has the leaf: a node, or two if one has not enough room.
func (n *node) with(leaf *node) []*node {
	if n.kids[0].kids == nil {
		return parted(slices.Concat(n.kids, []*node{leaf}))
	}
	i := leastGrowth(n.kids, leaf.box)
	return parted(slices.Concat(n.kids[:i], n.kids[i].with(leaf), n.kids[i+1:]))
}

func leastGrowth(nodes []*node, box shape.Box) int {
	best, least := 0, nodes[0].box.Growth(box)
	for i, n := range nodes {
		if g := n.box.Growth(box); g < least {
			best, least = i, g
		}
	}
	return best
}

// parted puts the kids, which are the caller's to give away, into one node or two.
func parted(kids []*node) []*node {
	whole := over(kids)
	if len(kids) <= mostKids {
		return []*node{whole}
	}
	slices.SortStableFunc(kids, along(whole.box))
	half := len(kids) / 2
	return []*node{over(slices.Clone(kids[:half])), over(slices.Clone(kids[half:]))}
}

// along orders by middles, on the longer way: so the halves overlap least.
func along(box shape.Box) func(a, b *node) int {
	if box.Right-box.Left >= box.Bottom-box.Top {
		return func(a, b *node) int {
			return cmp.Compare(a.box.Left+a.box.Right, b.box.Left+b.box.Right)
		}
	}
	return func(a, b *node) int {
		return cmp.Compare(a.box.Top+a.box.Bottom, b.box.Top+b.box.Bottom)
	}
}

func over(kids []*node) *node {
	box := kids[0].box
	for _, kid := range kids[1:] {
		box = box.Join(kid.box)
	}
	return &node{box: box, kids: kids}
}
