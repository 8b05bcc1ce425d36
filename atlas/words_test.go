package atlas_test

import (
	"fmt"
	"math/big"
	"math/rand"
	"strings"
	"testing"

	"atlas/api"
	"atlas/atlas"
)

// Here tiles are drawn word by word as the document tells it, with fractions
// and without a tree, and held against what Draw answers.

func slowBody(list []api.Feature, t api.Tile) string {
	w := 256
	for range t.Zoom {
		w /= 2
	}
	p := w / 8
	var runs []string
	last, count := -1, 0
	for j := range 8 {
		for i := range 8 {
			c := slowColour(list, w*t.Column+i*p, w*t.Row+j*p, p)
			if c != last && count > 0 {
				runs = append(runs, fmt.Sprintf("%dx%d", count, last))
				count = 0
			}
			last = c
			count++
		}
	}
	return strings.Join(append(runs, fmt.Sprintf("%dx%d", count, last)), ",")
}

func slowColour(list []api.Feature, x0, y0, p int) int {
	colour, rank := 0, -1
	for _, f := range list {
		if r := (f.Height+9)*100 + f.Id; r > rank && slowCovers(f, x0, y0, p) {
			colour, rank = f.Colour, r
		}
	}
	return colour
}

func slowCovers(f api.Feature, x0, y0, p int) bool {
	v := f.Places
	switch f.Kind {
	case api.Point:
		return x0 <= v[0].X && v[0].X < x0+p && y0 <= v[0].Y && v[0].Y < y0+p
	case api.Line:
		for i := range len(v) - 1 {
			if slowTouches(v[i], v[i+1], x0, y0, p) {
				return true
			}
		}
		return false
	}
	count := 0
	for i := range v {
		if slowCrossed(v[i], v[(i+1)%len(v)], x0+p/2, y0+p/2) {
			count++
		}
	}
	return count%2 == 1
}

// slowTouches narrows the piece of the segment that may lie in the square, side by side.
func slowTouches(a, b api.Place, x0, y0, p int) bool {
	from, to := big.NewRat(0, 1), big.NewRat(1, 1)
	return narrow(a.X, b.X, x0, x0+p, from, to) && narrow(a.Y, b.Y, y0, y0+p, from, to)
}

func narrow(a, b, low, high int, from, to *big.Rat) bool {
	if a == b {
		return low <= a && a <= high
	}
	enter, leave := big.NewRat(int64(low-a), int64(b-a)), big.NewRat(int64(high-a), int64(b-a))
	if enter.Cmp(leave) > 0 {
		enter, leave = leave, enter
	}
	if enter.Cmp(from) > 0 {
		from.Set(enter)
	}
	if leave.Cmp(to) < 0 {
		to.Set(leave)
	}
	return from.Cmp(to) <= 0
}

func slowCrossed(a, b api.Place, mx, my int) bool {
	if (a.Y > my) == (b.Y > my) {
		return false
	}
	x := big.NewRat(int64(my-a.Y), int64(b.Y-a.Y))
	x.Mul(x, big.NewRat(int64(b.X-a.X), 1))
	x.Add(x, big.NewRat(int64(a.X), 1))
	return x.Cmp(big.NewRat(int64(mx), 1)) > 0
}

// someNumber lies often on sides and middles of pixels, where mistakes would show.
func someNumber(r *rand.Rand) int {
	n := r.Intn(256)
	step := []int{1, 2, 4, 16, 32}[r.Intn(5)]
	return n / step * step
}

func someFeatures(r *rand.Rand, count int) []api.Feature {
	list := make([]api.Feature, count)
	ids := r.Perm(api.MaxId)
	for i := range list {
		kind := 1 + r.Intn(3)
		places := 1
		if kind > api.Point {
			places = kind + r.Intn(7-kind)
		}
		xy := make([]int, 2*places)
		for k := range xy {
			xy[k] = someNumber(r)
		}
		list[i] = feature(ids[i]+1, kind, r.Intn(5)-2, 1+r.Intn(9), xy...)
	}
	return list
}

func someTile(r *rand.Rand) api.Tile {
	zoom := r.Intn(4)
	return tile(zoom, r.Intn(1<<zoom), r.Intn(1<<zoom))
}

func TestP3AsTheWordsSay(t *testing.T) {
	r := rand.New(rand.NewSource(1))
	for round := range 300 {
		list := someFeatures(r, 1+r.Intn(1+round%30))
		for range 4 {
			at := someTile(r)
			_, body, e := atlas.Draw(list, at)
			if want := slowBody(list, at); body != want || e != api.OK {
				t.Fatalf("%v, %v: %q, %d, want %q", list, at, body, e, want)
			}
		}
	}
}

func TestP3AllTilesOfAFullMap(t *testing.T) {
	list := someFeatures(rand.New(rand.NewSource(2)), api.MaxId)
	for zoom := range api.MaxZoom + 1 {
		for n := range 1 << (2 * zoom) {
			at := tile(zoom, n>>zoom, n&(1<<zoom-1))
			if _, body, e := atlas.Draw(list, at); body != slowBody(list, at) || e != api.OK {
				t.Fatalf("%v: %q, %d, want %q", at, body, e, slowBody(list, at))
			}
		}
	}
}

func TestP2OrderOfFeaturesDoesNotMatter(t *testing.T) {
	r := rand.New(rand.NewSource(3))
	for range 50 {
		list, at := someFeatures(r, 20), someTile(r)
		_, want, _ := atlas.Draw(list, at)
		r.Shuffle(len(list), func(i, j int) { list[i], list[j] = list[j], list[i] })
		if _, body, _ := atlas.Draw(list, at); body != want {
			t.Fatalf("%v, %v: %q, in another order %q", list, at, body, want)
		}
	}
}
