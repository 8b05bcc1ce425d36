package paint

import (
	"testing"

	"atlas/api"
	"atlas/shape"
)

func TestTilesGivesEachOnce(t *testing.T) {
	for zoom := range api.MaxZoom + 1 {
		seen := map[api.Tile]int{}
		for at := range Tiles(zoom) {
			seen[at]++
			if !IsTile(at) || at.Zoom != zoom || seen[at] > 1 {
				t.Errorf("zoom %d: %v, %d times", zoom, at, seen[at])
			}
		}
		if len(seen) != 1<<(2*zoom) {
			t.Errorf("zoom %d: %d tiles", zoom, len(seen))
		}
	}
	for range Tiles(3) {
		break
	}
}

func TestSquare(t *testing.T) {
	for _, c := range []struct {
		tile api.Tile
		want shape.Box
	}{
		{api.Tile{}, shape.Box{Left: 0, Top: 0, Right: 256, Bottom: 256}},
		{api.Tile{Zoom: 1, Column: 1}, shape.Box{Left: 128, Top: 0, Right: 256, Bottom: 128}},
		{api.Tile{Zoom: 3, Column: 2, Row: 7}, shape.Box{Left: 64, Top: 224, Right: 96, Bottom: 256}},
	} {
		if got := Square(c.tile); got != c.want {
			t.Errorf("%v: %v, want %v", c.tile, got, c.want)
		}
	}
}
