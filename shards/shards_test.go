package shards

import (
	"slices"
	"testing"

	"atlas/api"
	"atlas/shape"
)

func tile(zoom, col, row int) api.Tile { return api.Tile{Zoom: zoom, Column: col, Row: row} }

func keep(s *Shards, body string, tiles ...api.Tile) {
	for _, t := range tiles {
		s.Keep(t, body, s.Age(t))
	}
}

func wantTiles(t *testing.T, s *Shards, shard int, want ...api.Tile) {
	t.Helper()
	if got := s.Tiles(shard); !slices.Equal(got, want) {
		t.Errorf("shard %d: %v, want %v", shard, got, want)
	}
}

func TestNewBodyTakesTheOldOnesPlace(t *testing.T) {
	s := New(2)
	a, b := tile(1, 1, 0), tile(1, 0, 1)
	keep(&s, "old", a, b)
	keep(&s, "new", a)
	wantTiles(t, &s, 2, b, a)
	if body, ok := s.Use(a); body != "new" || !ok {
		t.Errorf("%q, %v", body, ok)
	}
	if body, ok := s.Use(b); body != "old" || !ok {
		t.Errorf("%q, %v", body, ok)
	}
	wantTiles(t, &s, 2, a, b)
}

func TestTileThatIsNotKeptIsNotUsed(t *testing.T) {
	s := New(2)
	keep(&s, "x", tile(1, 1, 0))
	if body, ok := s.Use(tile(1, 0, 1)); body != "" || ok {
		t.Errorf("%q, %v", body, ok)
	}
	wantTiles(t, &s, 2, tile(1, 1, 0))
}

func TestAnotherAgeIsNotKept(t *testing.T) {
	s := New(2)
	at := tile(1, 1, 0)
	keep(&s, "right", at, tile(1, 0, 1))
	for _, age := range []int{s.Age(at) - 1, s.Age(at) + 1} {
		s.Keep(at, "wrong", age)
	}
	wantTiles(t, &s, 2, at, tile(1, 0, 1))
	if body, _ := s.Use(at); body != "right" {
		t.Errorf("%q", body)
	}
}

func ages(s *Shards) [4]int {
	return [4]int{s.Age(tile(0, 0, 0)), s.Age(tile(1, 0, 0)), s.Age(tile(2, 0, 0)), s.Age(tile(3, 0, 0))}
}

func TestShardsGrowOlderOnceAStep(t *testing.T) {
	at := func(x, y int) shape.Box { return shape.BoxOf(api.Place{X: x, Y: y}) }
	world := shape.Box{Right: 255, Bottom: 255}
	for _, c := range []struct {
		zoom  int
		boxes []shape.Box
		want  [4]int
	}{
		{0, nil, [4]int{}},
		{3, nil, [4]int{}},
		{0, []shape.Box{at(9, 9)}, [4]int{1, 0, 0, 0}},
		{1, []shape.Box{at(9, 9)}, [4]int{0, 1, 0, 0}},
		{2, []shape.Box{at(9, 9), at(9, 9)}, [4]int{0, 0, 1, 0}},
		{3, []shape.Box{at(9, 9), at(40, 9)}, [4]int{1, 0, 0, 1}},
		{1, []shape.Box{at(128, 128)}, [4]int{0, 1, 1, 1}},
		{3, []shape.Box{world}, [4]int{1, 1, 1, 1}},
		{1, []shape.Box{world, world}, [4]int{0, 1, 1, 1}},
	} {
		for room := range 2 {
			s := New(room)
			s.Forget(c.zoom, c.boxes)
			if got := ages(&s); got != c.want {
				t.Errorf("zoom %d, %v: %v, want %v", c.zoom, c.boxes, got, c.want)
			}
		}
	}
}

func TestForgetsOneZoomAlone(t *testing.T) {
	s := New(8)
	keep(&s, "x", tile(0, 0, 0), tile(2, 1, 1), tile(2, 3, 3), tile(3, 1, 0))
	s.Forget(2, []shape.Box{{Left: 70, Top: 70, Right: 80, Bottom: 80}})
	wantTiles(t, &s, 0, tile(0, 0, 0), tile(2, 3, 3), tile(3, 1, 0))
}
