package shape

import (
	"testing"

	"atlas/api"
)

func TestBoxOfHasAllPlaces(t *testing.T) {
	got := BoxOf(api.Place{X: 5, Y: 9}, api.Place{X: 2, Y: 30}, api.Place{X: 7, Y: 1})
	if got != (Box{2, 1, 7, 30}) {
		t.Errorf("%v", got)
	}
	if got := BoxOf(api.Place{X: 255}); got != (Box{255, 0, 255, 0}) {
		t.Errorf("of one place: %v", got)
	}
}

func TestSidesBelongToABox(t *testing.T) {
	b := Box{10, 10, 20, 20}
	for _, c := range []struct {
		o    Box
		want bool
	}{
		{Box{20, 20, 30, 30}, true}, {Box{0, 0, 10, 10}, true}, {Box{20, 0, 20, 99}, true},
		{Box{12, 12, 13, 13}, true}, {Box{0, 0, 99, 99}, true}, {Box{0, 15, 99, 15}, true},
		{Box{21, 10, 30, 20}, false}, {Box{0, 10, 9, 20}, false},
		{Box{10, 21, 20, 30}, false}, {Box{10, 0, 20, 9}, false},
	} {
		if b.Meets(c.o) != c.want || c.o.Meets(b) != c.want {
			t.Errorf("%v meets %v: %v, %v, want %v", b, c.o, b.Meets(c.o), c.o.Meets(b), c.want)
		}
	}
}

func TestGrowth(t *testing.T) {
	b := Box{0, 0, 9, 9}
	for _, c := range []struct {
		o    Box
		want float32
	}{
		{Box{3, 3, 4, 4}, 0}, {b, 0}, {Box{10, 0, 10, 0}, 10}, {Box{0, 19, 0, 19}, 100}, {Box{19, 19, 19, 19}, 300},
	} {
		if got := b.Growth(c.o); got != c.want {
			t.Errorf("by %v: %v, want %v", c.o, got, c.want)
		}
	}
	if got := BoxOf(api.Place{}).Growth(BoxOf(api.Place{X: 9})); got != 9 {
		t.Errorf("a point to a level line: %v", got)
	}
}
