package shape

import "atlas/api"

// Covers tells whether the feature covers the pixel.
func Covers(f api.Feature, pixel Box) bool {
	switch f.Kind {
	case api.Point:
		return pointCovers(f.Places[0], pixel)
	case api.Line:
		return lineCovers(f.Places, pixel)
	case api.Area:
		return areaHas(f.Places, middle(pixel))
	}
	return false
}

// A pixel's right and lower side are the next pixel's, so that a point is in one pixel alone.
func pointCovers(p api.Place, pixel Box) bool {
	return pixel.Left <= p.X && p.X < pixel.Right && pixel.Top <= p.Y && p.Y < pixel.Bottom
}

func lineCovers(places []api.Place, pixel Box) bool {
	for i := 1; i < len(places); i++ {
		if segmentMeets(places[i-1], places[i], pixel) {
			return true
		}
	}
	return false
}

// A segment and a box are apart just if their boxes are, or if all corners of
// the box lie on one side of the line through the segment: whole numbers tell
// this without rounding.
func segmentMeets(a, b api.Place, box Box) bool {
	if !BoxOf(a, b).Meets(box) {
		return false
	}
	left, right := 0, 0
	for _, corner := range corners(box) {
		turn := turnOf(a, b, corner)
		if turn < 0 {
			left++
		}
		if turn > 0 {
			right++
		}
	}
	return left < 4 && right < 4
}

func corners(b Box) [4]api.Place {
	return [4]api.Place{{X: b.Left, Y: b.Top}, {X: b.Right, Y: b.Top}, {X: b.Right, Y: b.Bottom}, {X: b.Left, Y: b.Bottom}}
}

// turnOf is 0 if c lies on the line from a to b; else its sign tells on which side.
func turnOf(a, b, c api.Place) int {
	return (b.X-a.X)*(c.Y-a.Y) - (b.Y-a.Y)*(c.X-a.X)
}

// A pixel's side is even at all zooms, so its middle is a place.
func middle(b Box) api.Place {
	return api.Place{X: (b.Left + b.Right) / 2, Y: (b.Top + b.Bottom) / 2}
}

func areaHas(places []api.Place, m api.Place) bool {
	inside := false
	from := places[len(places)-1]
	for _, to := range places {
		if crossedToRight(from, to, m) {
			inside = !inside
		}
		from = to
	}
	return inside
}

func crossedToRight(a, b, m api.Place) bool {
	if (a.Y > m.Y) == (b.Y > m.Y) {
		return false
	}
	if a.Y > b.Y {
		a, b = b, a
	}
	// The division that gives the crossing's x is multiplied out, as b is below a.
	return (m.Y-a.Y)*(b.X-a.X) > (m.X-a.X)*(b.Y-a.Y)
}
