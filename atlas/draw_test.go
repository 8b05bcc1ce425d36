package atlas_test

import (
	"fmt"
	"hash/crc32"
	"math"
	"reflect"
	"slices"
	"strings"
	"sync"
	"testing"

	"atlas/api"
	"atlas/atlas"
)

func feature(id, kind, height, colour int, xy ...int) api.Feature {
	f := api.Feature{Id: id, Kind: kind, Height: height, Colour: colour}
	for i := 0; i+1 < len(xy); i += 2 {
		f.Places = append(f.Places, api.Place{X: xy[i], Y: xy[i+1]})
	}
	return f
}

func point(x, y int) api.Feature       { return feature(1, api.Point, 0, 3, x, y) }
func line(xy ...int) api.Feature       { return feature(1, api.Line, 0, 2, xy...) }
func area(xy ...int) api.Feature       { return feature(1, api.Area, 0, 4, xy...) }
func tile(zoom, col, row int) api.Tile { return api.Tile{Zoom: zoom, Column: col, Row: row} }

func TestP3DrawsOneFeature(t *testing.T) {
	for _, c := range []struct {
		name string
		f    api.Feature
		t    api.Tile
		want string
	}{
		{"the point of the examples", point(40, 0), tile(0, 0, 0), "1x0,1x3,62x0"},
		{"a point at a pixel's beginning", point(32, 32), tile(0, 0, 0), "9x0,1x3,54x0"},
		{"a point ahead of a pixel's beginning", point(31, 31), tile(0, 0, 0), "1x3,63x0"},
		{"a point at the end of the world", point(255, 255), tile(3, 7, 7), "63x0,1x3"},
		{"a point at a tile's right end is the next tile's", point(128, 0), tile(1, 0, 0), "64x0"},
		{"a point at a tile's beginning", point(128, 0), tile(1, 1, 0), "1x3,63x0"},
		{"a point at a tile's lower end is the next tile's", point(0, 128), tile(1, 0, 0), "64x0"},
		{"columns go by x and rows by y", point(0, 130), tile(1, 0, 1), "1x3,63x0"},
		{"a line on the side of two columns", line(32, 5, 32, 10), tile(0, 0, 0), "2x2,62x0"},
		{"a line on the side of two rows", line(5, 32, 10, 32), tile(0, 0, 0), "1x2,7x0,1x2,55x0"},
		{"a line of one place, at a corner of four pixels", line(32, 32, 32, 32), tile(0, 0, 0), "2x2,6x0,2x2,54x0"},
		{"a line on a tile's right end", line(128, 0, 128, 3), tile(1, 0, 0), "7x0,1x2,56x0"},
		{"a line on a tile's lower end", line(0, 128, 3, 128), tile(1, 0, 0), "56x0,1x2,7x0"},
		{"a line that passes a corner by", line(1, 62, 62, 3), tile(0, 0, 0), "1x0,1x2,6x0,2x2,54x0"},
		{"a line that touches a corner alone", line(64, 0, 0, 64), tile(3, 0, 0), "63x0,1x2"},
		{"a line next to a corner", line(65, 0, 0, 65), tile(3, 0, 0), "64x0"},
		{"a line ends before it comes to the next pixel", line(1, 1, 31, 31), tile(0, 0, 0), "1x2,63x0"},
		{"a line is not closed", line(0, 0, 255, 0, 255, 255), tile(2, 0, 3), "64x0"},
		{"a line goes back over itself", line(1, 1, 40, 1, 1, 1), tile(0, 0, 0), "2x2,62x0"},
		{"an area's left side at middles", area(16, 0, 48, 0, 48, 31, 16, 31), tile(0, 0, 0), "1x4,63x0"},
		{"an area's upper side at middles", area(0, 16, 40, 16, 40, 40, 0, 40), tile(0, 0, 0), "1x4,63x0"},
		{"an area's lower side at middles", area(0, 0, 40, 0, 40, 16, 0, 16), tile(0, 0, 0), "64x0"},
		{"an area between middles", area(17, 17, 47, 17, 47, 47, 17, 47), tile(0, 0, 0), "64x0"},
		{"an area is closed by its last side", area(0, 0, 60, 0, 60, 60), tile(0, 0, 0), "2x4,7x0,1x4,54x0"},
		{"an area without inside", area(0, 0, 255, 255, 0, 0), tile(0, 0, 0), "64x0"},
		{"an area of one place", area(16, 16, 16, 16, 16, 16), tile(0, 0, 0), "64x0"},
		{"an area that goes round twice", area(0, 0, 80, 0, 0, 80, 0, 0, 80, 0, 0, 80), tile(0, 0, 0), "64x0"},
		{"an area over a whole tile", area(0, 0, 255, 0, 255, 255, 0, 255), tile(3, 4, 4), "64x4"},
	} {
		_, body, e := atlas.Draw([]api.Feature{c.f}, c.t)
		if body != c.want || e != api.OK {
			t.Errorf("%s: %q, %d, want %q", c.name, body, e, c.want)
		}
	}
}

func TestP3GreatestHeightThenGreatestNumber(t *testing.T) {
	at := func(id, height, colour int) api.Feature { return feature(id, api.Point, height, colour, 0, 0) }
	for _, c := range []struct {
		list []api.Feature
		want int
	}{
		{[]api.Feature{at(1, 1, 1), at(2, 0, 2)}, 1},
		{[]api.Feature{at(1, 0, 1), at(2, 0, 2)}, 2},
		{[]api.Feature{at(99, -9, 1), at(1, -8, 2)}, 2},
		{[]api.Feature{at(1, 9, 1), at(99, 8, 9)}, 1},
		{[]api.Feature{at(9, -9, 5)}, 5},
		{[]api.Feature{at(3, -9, 3), at(2, -9, 9), at(1, -9, 9)}, 3},
	} {
		for range 2 {
			_, body, _ := atlas.Draw(c.list, tile(0, 0, 0))
			if want := fmt.Sprintf("1x%d,63x0", c.want); body != want {
				t.Errorf("%v: %q, want %q", c.list, body, want)
			}
			c.list = slices.Clone(c.list)
			slices.Reverse(c.list)
		}
	}
}

func TestP3RunsAreAsLongAsCanBe(t *testing.T) {
	list := []api.Feature{
		feature(1, api.Point, 0, 7, 224, 0),
		feature(2, api.Point, 0, 7, 0, 32),
		feature(3, api.Point, 0, 6, 32, 32),
	}
	if _, body, _ := atlas.Draw(list, tile(0, 0, 0)); body != "7x0,2x7,1x6,54x0" {
		t.Errorf("over the end of a row: %q", body)
	}
}

func TestP3Mark(t *testing.T) {
	if mark, body, e := atlas.Draw(nil, tile(0, 0, 0)); mark != "1659f67f" || body != "64x0" || e != api.OK {
		t.Errorf("of none: %q, %q, %d", mark, body, e)
	}
	noughts := 0
	for x := range api.World {
		mark, body, _ := atlas.Draw([]api.Feature{line(x, 0, 255-x/3, 255)}, tile(0, 0, 0))
		if want := fmt.Sprintf("%08x", crc32.ChecksumIEEE([]byte(body))); mark != want {
			t.Errorf("mark of %q: %q, want %q", body, mark, want)
		}
		if strings.HasPrefix(mark, "0") {
			noughts++
		}
	}
	if noughts == 0 {
		t.Errorf("no mark here has a nought ahead: the test wants other bodies")
	}
}

func TestP3BoundsMayBe(t *testing.T) {
	six := []int{0, 0, 255, 0, 255, 255, 0, 255, 1, 1, 2, 2}
	for _, f := range []api.Feature{
		feature(1, api.Point, -9, 1, 0, 0), feature(99, api.Point, 9, 9, 255, 255),
		line(six[:4]...), line(six...), area(six[:6]...), area(six...),
	} {
		if _, body, e := atlas.Draw([]api.Feature{f}, tile(0, 0, 0)); e != api.OK || body == "" {
			t.Errorf("%v: %q, %d", f, body, e)
		}
	}
	for zoom := range api.MaxZoom + 1 {
		last := 1<<zoom - 1
		if _, body, e := atlas.Draw(nil, tile(zoom, last, last)); e != api.OK || body != "64x0" {
			t.Errorf("last tile of zoom %d: %q, %d", zoom, body, e)
		}
	}
	all := make([]api.Feature, api.MaxId)
	for i := range all {
		all[i] = feature(i+1, api.Point, 0, 1, i, i)
	}
	if _, _, e := atlas.Draw(all, tile(0, 0, 0)); e != api.OK {
		t.Errorf("as many as there are numbers: %d", e)
	}
}

func refused(t *testing.T, list []api.Feature, at api.Tile) {
	t.Helper()
	if mark, body, e := atlas.Draw(list, at); mark != "" || body != "" || e != api.ErrArg {
		t.Errorf("%v, %v: %q, %q, %d", list, at, mark, body, e)
	}
}

func TestP3WrongTiles(t *testing.T) {
	for zoom := range api.MaxZoom + 1 {
		over := 1 << zoom
		for _, n := range []int{over, over + 1, -1, math.MaxInt, math.MinInt} {
			refused(t, nil, tile(zoom, n, 0))
			refused(t, nil, tile(zoom, 0, n))
		}
	}
	for _, zoom := range []int{-1, 4, 63, 64, 1 << 40, math.MaxInt, math.MinInt} {
		refused(t, nil, tile(zoom, 0, 0))
	}
}

func TestP3WrongFeatures(t *testing.T) {
	good := feature(7, api.Point, 0, 1, 5, 5)
	for _, bad := range wrongFeatures() {
		refused(t, []api.Feature{bad}, tile(0, 0, 0))
		refused(t, []api.Feature{good, bad}, tile(0, 0, 0))
		refused(t, []api.Feature{bad, good}, tile(3, 7, 7))
	}
	other := feature(8, api.Point, 0, 1, 5, 5)
	refused(t, []api.Feature{good, other, good}, tile(0, 0, 0))
	refused(t, []api.Feature{good, feature(7, api.Line, 1, 2, 0, 0, 9, 9)}, tile(0, 0, 0))
	refused(t, []api.Feature{good}, tile(0, 1, 0))
}

func wrongFeatures() []api.Feature {
	list := []api.Feature{
		{},
		{Id: 1, Kind: api.Point, Colour: 1},
		feature(1, api.Point, 0, 1, 0, 0, 1, 1),
		feature(1, api.Line, 0, 1, 0, 0),
		feature(1, api.Line, 0, 1),
		feature(1, api.Area, 0, 1, 0, 0, 9, 9),
		feature(1, api.Area, 0, 1),
		feature(1, api.Line, 0, 1, make([]int, 14)...),
		feature(1, api.Area, 0, 1, make([]int, 14)...),
	}
	extremes := []int{math.MinInt, math.MaxInt, 1 << 32, 1<<32 + 1, 1<<8 + 1}
	for _, n := range append(extremes, 0, -1, 100) {
		list = append(list, feature(n, api.Point, 0, 1, 0, 0))
	}
	for _, n := range append(extremes, 0, -1, 4) {
		list = append(list, feature(1, n, 0, 1, 0, 0), feature(1, n, 0, 1, 0, 0, 9, 0, 9, 9))
	}
	for _, n := range append(extremes, -10, 10) {
		list = append(list, feature(1, api.Point, n, 1, 0, 0))
	}
	for _, n := range append(extremes, 0, -1, 10) {
		list = append(list, feature(1, api.Point, 0, n, 0, 0))
	}
	for _, n := range append(extremes, -1, 256) {
		list = append(list, point(n, 0), point(0, n), line(0, 0, 9, n), line(n, 0, 9, 9),
			area(0, 0, 9, 0, 9, n), area(0, 0, 9, 0, n, 9))
	}
	return list
}

func TestP1LongListsEnd(t *testing.T) {
	many := make([]api.Feature, 1<<18)
	for i := range many {
		many[i] = feature(i%api.MaxId+1, api.Point, 0, 1, 0, 0)
	}
	refused(t, many, tile(0, 0, 0))
	refused(t, []api.Feature{{Id: 1, Kind: api.Line, Colour: 1, Places: make([]api.Place, 1<<20)}}, tile(0, 0, 0))
	refused(t, make([]api.Feature, 1<<18), tile(0, 0, 0))
	if _, body, e := atlas.Draw([]api.Feature{}, tile(0, 0, 0)); body != "64x0" || e != api.OK {
		t.Errorf("an empty list: %q, %d", body, e)
	}
}

func TestP1NoCallPanics(t *testing.T) {
	numbers := []int{math.MinInt, -1, 0, 3, 4, math.MaxInt}
	texts := []string{"", " ", "get", "get 0 0 0", "put 1 point 0 3 40,0", "\x00\xff", strings.Repeat("x", 1<<16)}
	for _, n := range numbers {
		atlas.New(n)
	}
	a, _ := atlas.New(2)
	for _, n := range numbers {
		for _, text := range texts {
			a.Send(n, text)
			a.Pick(n)
		}
		a.Answers(n)
		a.Kept(n)
	}
	a.Look()
}

// roomy is a list of features in which every list has spare room with something in it.
func roomy() []api.Feature {
	list := []api.Feature{
		feature(9, api.Line, 3, 1, 200, 200, 10, 10, 90, 1),
		feature(4, api.Area, -1, 2, 0, 0, 255, 0, 0, 255),
		feature(6, api.Point, 5, 3, 77, 12),
		feature(1, api.Line, 3, 4, 255, 0, 0, 255),
		feature(2, api.Point, 9, 5, 3, 250),
		feature(8, api.Point, 9, 6, 250, 3),
		feature(50, api.Point, 0, 9, 1, 1),
		feature(51, api.Point, 0, 9, 2, 2),
	}
	for i := range list {
		places := append(list[i].Places, api.Place{X: 91, Y: 92}, api.Place{X: 93, Y: 94})
		list[i].Places = places[:len(places)-2]
	}
	return list[:6]
}

// behind is all that stands in the lists, their spare room too.
func behind(list []api.Feature) []api.Feature {
	all := slices.Clone(list[:cap(list)])
	for i := range all {
		all[i].Places = slices.Clone(all[i].Places[:cap(all[i].Places)])
	}
	return all
}

func TestP2ListsAreNotWrittenInto(t *testing.T) {
	list := roomy()
	before := behind(list)
	for zoom := range api.MaxZoom + 1 {
		atlas.Draw(list, tile(zoom, 0, 0))
	}
	atlas.Draw(list, tile(4, 0, 0))
	if !reflect.DeepEqual(before, behind(list)) {
		t.Errorf("Draw wrote into the lists: %v, ahead of it %v", behind(list), before)
	}
}

func TestP2NothingIsKept(t *testing.T) {
	list := roomy()
	mark, body, _ := atlas.Draw(list, tile(0, 0, 0))
	list[1].Colour = 7
	list[0].Places[1] = api.Place{X: 255, Y: 100}
	if _, other, _ := atlas.Draw(list, tile(0, 0, 0)); other == body {
		t.Errorf("a changed list is drawn as it was: %q", other)
	}
	atlas.Draw(nil, tile(9, 9, 9))
	if m, b, e := atlas.Draw(roomy(), tile(0, 0, 0)); m != mark || b != body || e != api.OK {
		t.Errorf("the same arguments: %q, %q, %d, at first %q, %q", m, b, e, mark, body)
	}
}

func TestP2SeveralAtATime(t *testing.T) {
	list := roomy()
	_, want, _ := atlas.Draw(list, tile(0, 0, 0))
	bodies := make([]string, 8)
	var group sync.WaitGroup
	for i := range bodies {
		group.Go(func() { _, bodies[i], _ = atlas.Draw(list, tile(0, 0, 0)) })
	}
	group.Wait()
	for _, body := range bodies {
		if body != want {
			t.Errorf("%q, want %q", body, want)
		}
	}
}
