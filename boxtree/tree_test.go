package boxtree

import (
	"math/rand"
	"slices"
	"testing"

	"atlas/api"
	"atlas/shape"
)

func someLine(r *rand.Rand, id int) api.Feature {
	x, y := r.Intn(200), r.Intn(200)
	far := api.Place{X: x + r.Intn(40), Y: y + r.Intn(40)}
	return api.Feature{Id: id, Kind: api.Line, Colour: 1, Places: []api.Place{{X: x, Y: y}, far}}
}

func idsMeeting(t Tree, box shape.Box) []int {
	var ids []int
	for f := range t.Meeting(box) {
		ids = append(ids, f.Id)
	}
	slices.Sort(ids)
	return ids
}

func TestMeetingGivesEachOnceAndNoOther(t *testing.T) {
	r := rand.New(rand.NewSource(4))
	var tree Tree
	var list []api.Feature
	for id := 1; id <= api.MaxId; id++ {
		f := someLine(r, id)
		tree, list = tree.With(f), append(list, f)
		box := shape.BoxOf(someLine(r, 1).Places...)
		var want []int
		for _, f := range list {
			if shape.BoxOf(f.Places...).Meets(box) {
				want = append(want, f.Id)
			}
		}
		if got := idsMeeting(tree, box); !slices.Equal(got, want) {
			t.Fatalf("%d features, %v: %v, want %v", id, box, got, want)
		}
	}
}

func TestTreesDoNotChange(t *testing.T) {
	r := rand.New(rand.NewSource(5))
	world := shape.Box{Right: api.World, Bottom: api.World}
	trees := []Tree{{}}
	for id := 1; id <= api.MaxId; id++ {
		last := trees[len(trees)-1]
		last.With(someLine(r, 77))
		trees = append(trees, last.With(someLine(r, id)))
	}
	for n, tree := range trees {
		ids := idsMeeting(tree, world)
		if len(ids) != n || n > 0 && ids[n-1] != n {
			t.Fatalf("tree of %d features: %v", n, ids)
		}
	}
}

func TestWithoutTakesOneOut(t *testing.T) {
	r := rand.New(rand.NewSource(8))
	world := shape.Box{Right: api.World, Bottom: api.World}
	var tree Tree
	var ids []int
	for range 500 {
		id := 1 + r.Intn(40)
		if i := slices.Index(ids, id); i >= 0 && r.Intn(2) == 0 {
			before := tree
			tree, ids = tree.Without(id), slices.Delete(ids, i, i+1)
			if _, ok := before.Find(id); !ok {
				t.Fatalf("a tree was changed by Without(%d)", id)
			}
		} else if i < 0 {
			tree, ids = tree.Without(id).With(someLine(r, id)), append(ids, id)
		}
		slices.Sort(ids)
		if got := idsMeeting(tree, world); !slices.Equal(got, ids) || tree.Count() != len(ids) {
			t.Fatalf("%v, %d, want %v", got, tree.Count(), ids)
		}
		if tree.root != nil {
			check(t, tree.root)
		}
	}
}

func TestFind(t *testing.T) {
	r := rand.New(rand.NewSource(9))
	var tree Tree
	for id := 1; id <= 30; id++ {
		if f, ok := tree.Find(id); ok || f.Id != 0 {
			t.Fatalf("%d is not there, but found: %v", id, f)
		}
		want := someLine(r, id)
		tree = tree.With(want)
		if f, ok := tree.Find(id); !ok || f.Id != id || !slices.Equal(f.Places, want.Places) {
			t.Fatalf("%v, %v, want %v", f, ok, want)
		}
	}
}

func TestMeetingEndsWhenToldTo(t *testing.T) {
	r := rand.New(rand.NewSource(6))
	var tree Tree
	for id := 1; id <= 30; id++ {
		tree = tree.With(someLine(r, id))
	}
	seen := 0
	for range tree.Meeting(shape.Box{Right: api.World, Bottom: api.World}) {
		seen++
		if seen == 3 {
			break
		}
	}
	if seen != 3 {
		t.Errorf("saw %d", seen)
	}
}

// check tells how deep the features lie.
func check(t *testing.T, n *node) int {
	t.Helper()
	if n.kids == nil {
		return 0
	}
	if len(n.kids) > mostKids {
		t.Fatalf("%d kids", len(n.kids))
	}
	depth := check(t, n.kids[0])
	for _, kid := range n.kids {
		if kid.box.Join(n.box) != n.box || check(t, kid) != depth {
			t.Fatalf("kid %v of %v, not as deep as the others or not within", kid.box, n.box)
		}
	}
	return depth + 1
}

func TestTreeIsFlatAndItsBoxesHold(t *testing.T) {
	r := rand.New(rand.NewSource(7))
	var tree Tree
	for id := 1; id <= api.MaxId; id++ {
		tree = tree.With(someLine(r, id))
		if depth := check(t, tree.root); depth > 7 {
			t.Fatalf("%d features lie %d deep", id, depth)
		}
	}
}

func TestLeastGrowthPicksTheNode(t *testing.T) {
	at := func(left, top, right, bottom int) *node {
		return &node{box: shape.Box{Left: left, Top: top, Right: right, Bottom: bottom}}
	}
	nodes := []*node{at(0, 0, 10, 10), at(20, 0, 30, 10), at(20, 0, 30, 10), at(0, 50, 0, 50)}
	for _, c := range []struct{ x, y, want int }{{5, 5, 0}, {12, 5, 0}, {18, 5, 1}, {25, 5, 1}, {0, 60, 3}} {
		if i := leastGrowth(nodes, shape.BoxOf(api.Place{X: c.x, Y: c.y})); i != c.want {
			t.Errorf("(%d, %d): node %d, want %d", c.x, c.y, i, c.want)
		}
	}
}
