// Package shape: what a feature is, its box, and which pixels it covers.
package shape

import "atlas/api"

// Box is a rectangle; its sides belong to it.
type Box struct {
	Left, Top, Right, Bottom int
}

// BoxOf is the least box that has all the places, of which there is at least one.
func BoxOf(places ...api.Place) Box {
	b := boxAt(places[0])
	for _, p := range places[1:] {
		b = b.Join(boxAt(p))
	}
	return b
}

func boxAt(p api.Place) Box {
	return Box{p.X, p.Y, p.X, p.Y}
}

// Join is the least box that has both.
func (b Box) Join(o Box) Box {
	return Box{
		Left:   min(b.Left, o.Left),
		Top:    min(b.Top, o.Top),
		Right:  max(b.Right, o.Right),
		Bottom: max(b.Bottom, o.Bottom),
	}
}

// Meets tells whether the two have a place in common.
func (b Box) Meets(o Box) bool {
	return b.Left <= o.Right && o.Left <= b.Right && b.Top <= o.Bottom && o.Top <= b.Bottom
}

// Growth is by how much b would grow, if it had to take in o.
func (b Box) Growth(o Box) float32 {
	return b.Join(o).size() - b.size()
}

// The size counts places rather than lengths: a point and a level line have no
// area, and would be at no cost wherever they lie on one line.
func (b Box) size() float32 {
	return float32(b.Right-b.Left+1) * float32(b.Bottom-b.Top+1)
}
