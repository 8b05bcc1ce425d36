// Package paint: tiles, their pixels, bodies and marks.
package paint

import (
	"atlas/api"
	"atlas/shape"
)

// IsTile tells whether there is such a tile.
func IsTile(t api.Tile) bool {
	if t.Zoom < 0 || t.Zoom > api.MaxZoom {
		return false
	}
	count := 1 << t.Zoom
	return 0 <= t.Column && t.Column < count && 0 <= t.Row && t.Row < count
}

// pixel is the square of the pixel (i, j) of the tile.
func pixel(t api.Tile, i, j int) shape.Box {
	w := api.World >> t.Zoom
	p := w / api.Pixels
	x, y := w*t.Column+i*p, w*t.Row+j*p
	return shape.Box{Left: x, Top: y, Right: x + p, Bottom: y + p}
}
