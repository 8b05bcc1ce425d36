// Package paint: tiles, their pixels, bodies and marks.
package paint

import (
	"iter"

	"atlas/api"
	"atlas/shape"
)

// IsTile tells whether there is such a tile.
func IsTile(t api.Tile) bool {
	if t.Zoom < 0 || t.Zoom > api.MaxZoom {
		return false
	}
	count := 1 << t.Zoom
	return 0 <= t.Column && t.Column < count && 0 <= t.Row && t.Row < count
}

// Tiles gives all tiles of the zoom.
func Tiles(zoom int) iter.Seq[api.Tile] {
	return func(yield func(api.Tile) bool) {
		count := 1 << zoom
		for n := range count * count {
			if !yield(api.Tile{Zoom: zoom, Column: n % count, Row: n / count}) {
				return
			}
		}
	}
}

// Square is the square of the tile.
func Square(t api.Tile) shape.Box {
	w := side(t)
	return square(w*t.Column, w*t.Row, w)
}

// pixel is the square of the pixel (i, j) of the tile.
func pixel(t api.Tile, i, j int) shape.Box {
	start, p := Square(t), side(t)/api.Pixels
	return square(start.Left+i*p, start.Top+j*p, p)
}

func side(t api.Tile) int {
	return api.World >> t.Zoom
}

func square(left, top, side int) shape.Box {
	return shape.Box{Left: left, Top: top, Right: left + side, Bottom: top + side}
}
