package paint

import (
	"strconv"
	"strings"

	"atlas/api"
	"atlas/boxtree"
	"atlas/shape"
)

// Body is the body of the tile, drawn of the features.
func Body(features boxtree.Tree, t api.Tile) string {
	var colours [api.Pixels * api.Pixels]int
	for n := range colours {
		colours[n] = colour(features, pixel(t, n%api.Pixels, n/api.Pixels))
	}
	return runs(colours[:])
}

func colour(features boxtree.Tree, pixel shape.Box) int {
	var top api.Feature
	for f := range features.Meeting(pixel) {
		if shape.Covers(f, pixel) && (top.Id == 0 || above(f, top)) {
			top = f
		}
	}
	return top.Colour
}

func above(f, g api.Feature) bool {
	if f.Height != g.Height {
		return f.Height > g.Height
	}
	return f.Id > g.Id
}

func runs(colours []int) string {
	var out []string
	for len(colours) > 0 {
		n := 1
		for n < len(colours) && colours[n] == colours[0] {
			n++
		}
		out = append(out, strconv.Itoa(n)+"x"+strconv.Itoa(colours[0]))
		colours = colours[n:]
	}
	return strings.Join(out, ",")
}
