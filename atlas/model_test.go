package atlas_test

import (
	"fmt"
	"hash/crc32"
	"math/rand"
	"regexp"
	"slices"
	"strconv"
	"strings"
	"testing"

	"atlas/api"
	"atlas/atlas"
)

// Here the steps are done a second time, as the document tells them, on plain
// lists, and each call of an atlas is held against it.

type slowAtlas struct {
	room     int
	features []api.Feature
	locked   bool
	ages     [4]int
	kept     [4][]slowTile
	sessions [4]slowSession
}

type slowTile struct {
	tile api.Tile
	body string
}

type slowSession struct {
	queue   []string
	done    int // steps of the first request
	age     int
	noted   []api.Feature
	answers []string
}

var (
	slowGet = regexp.MustCompile(`^get (0|[1-9]\d*) (0|[1-9]\d*) (0|[1-9]\d*)(?: ([^ ]{8}))?$`)
	slowPut = regexp.MustCompile(`^put ([1-9]\d?) (point|line|area) (0|-?[1-9]) ([1-9])((?: \d+,\d+){1,6})$`)
	slowDel = regexp.MustCompile(`^del ([1-9]\d?)$`)
)

func slowNumber(s string) int {
	n, _ := strconv.Atoi(s)
	return n
}

func slowTileOf(words []string) (api.Tile, bool) {
	if words == nil {
		return api.Tile{}, false
	}
	at := tile(slowNumber(words[1]), slowNumber(words[2]), slowNumber(words[3]))
	return at, at.Zoom <= 3 && at.Column < 1<<at.Zoom && at.Row < 1<<at.Zoom
}

func slowFeatureOf(words []string) (api.Feature, bool) {
	if words == nil {
		return api.Feature{}, false
	}
	kind := slices.Index([]string{"", "point", "line", "area"}, words[2])
	f := feature(slowNumber(words[1]), kind, slowNumber(words[3]), slowNumber(words[4]))
	for _, word := range strings.Fields(words[5]) {
		var p api.Place
		fmt.Sscanf(word, "%d,%d", &p.X, &p.Y)
		if word != fmt.Sprintf("%d,%d", p.X, p.Y) || p.X > 255 || p.Y > 255 {
			return f, false
		}
		f.Places = append(f.Places, p)
	}
	return f, len(f.Places) >= kind && (kind > 1 || len(f.Places) == 1)
}

func (a *slowAtlas) pick(n int) bool {
	s := &a.sessions[n]
	if len(s.queue) == 0 {
		return false
	}
	did, answer := true, "400"
	getWords, delWords := slowGet.FindStringSubmatch(s.queue[0]), slowDel.FindStringSubmatch(s.queue[0])
	if at, ok := slowTileOf(getWords); ok {
		did, answer = a.getStep(s, at, getWords[4])
	} else if f, ok := slowFeatureOf(slowPut.FindStringSubmatch(s.queue[0])); ok {
		did, answer = a.changeStep(s, f.Id, []api.Feature{f})
	} else if delWords != nil {
		did, answer = a.changeStep(s, slowNumber(delWords[1]), nil)
	}
	if !did {
		return false
	}
	s.done++
	if answer != "" {
		s.answers = append(s.answers, answer)
		s.queue, s.done = s.queue[1:], 0
	}
	return true
}

func slowShard(at api.Tile) int { return (at.Zoom + at.Column + at.Row) % 4 }

// use puts the tile at the end, if it is kept.
func (a *slowAtlas) use(at api.Tile) (string, bool) {
	shard := slowShard(at)
	for i, k := range a.kept[shard] {
		if k.tile == at {
			a.kept[shard] = append(slices.Delete(a.kept[shard], i, i+1), k)
			return k.body, true
		}
	}
	return "", false
}

func (a *slowAtlas) keep(at api.Tile, body string) {
	shard := slowShard(at)
	if _, ok := a.use(at); ok {
		a.kept[shard][len(a.kept[shard])-1].body = body
		return
	}
	a.kept[shard] = append(a.kept[shard], slowTile{at, body})
	if len(a.kept[shard]) > a.room {
		a.kept[shard] = a.kept[shard][1:]
	}
}

func (a *slowAtlas) getStep(s *slowSession, at api.Tile, mark string) (bool, string) {
	switch s.done {
	case 0:
		if body, ok := a.use(at); ok {
			return true, slowAnswer(body, mark)
		}
		s.age = a.ages[slowShard(at)]
		return true, ""
	case 1:
		if a.locked {
			return false, ""
		}
		s.noted = slices.Clone(a.features)
		return true, ""
	}
	_, body, _ := atlas.Draw(s.noted, at)
	if s.age == a.ages[slowShard(at)] {
		a.keep(at, body)
	}
	return true, slowAnswer(body, mark)
}

func slowMark(body string) string {
	return fmt.Sprintf("%08x", crc32.ChecksumIEEE([]byte(body)))
}

func slowAnswer(body, mark string) string {
	if m := slowMark(body); m == mark {
		return "304 " + m
	}
	return "200 " + slowMark(body) + " " + body
}

func (a *slowAtlas) changeStep(s *slowSession, id int, put []api.Feature) (bool, string) {
	at := slices.IndexFunc(a.features, func(f api.Feature) bool { return f.Id == id })
	switch s.done {
	case 0:
		if a.locked {
			return false, ""
		}
		a.locked = true
		return true, ""
	case 1, 2, 3, 4:
		list := put
		if at >= 0 {
			list = append(slices.Clone(put), a.features[at])
		}
		a.forget(s.done-1, list)
		return true, ""
	}
	a.locked = false
	answer := "404"
	if put != nil {
		answer = "201"
	}
	if at >= 0 {
		answer = "200"
		a.features = slices.Delete(slices.Clone(a.features), at, at+1)
	}
	a.features = append(a.features, put...)
	return true, answer
}

func (a *slowAtlas) forget(zoom int, list []api.Feature) {
	older := map[int]bool{}
	for n := range 1 << (2 * zoom) {
		at := tile(zoom, n%(1<<zoom), n>>zoom)
		if !slices.ContainsFunc(list, func(f api.Feature) bool { return slowMeets(f, at) }) {
			continue
		}
		shard := slowShard(at)
		a.kept[shard] = slices.DeleteFunc(a.kept[shard], func(k slowTile) bool { return k.tile == at })
		older[shard] = true
	}
	for shard := range older {
		a.ages[shard]++
	}
}

func slowMeets(f api.Feature, at api.Tile) bool {
	w := 256 >> at.Zoom
	x, y := w*at.Column, w*at.Row
	left, right, top, bottom := 255, 0, 255, 0
	for _, p := range f.Places {
		left, right, top, bottom = min(left, p.X), max(right, p.X), min(top, p.Y), max(bottom, p.Y)
	}
	return !(right < x || left > x+w || bottom < y || top > y+w)
}

func (a *slowAtlas) look() api.View {
	v := api.View{Features: len(a.features), Locked: a.locked}
	for _, s := range a.sessions {
		v.Waiting += len(s.queue)
	}
	return v
}

func (a *slowAtlas) tiles(shard int) []api.Tile {
	var list []api.Tile
	for _, k := range a.kept[shard] {
		list = append(list, k.tile)
	}
	return list
}

// someRequest keeps to few tiles, numbers and places, so that requests have to do with each other.
func someRequest(r *rand.Rand) string {
	switch r.Intn(12) {
	case 0:
		return []string{"", "get 0 0", "put 1 point 0 3", "del 0", "get 2 4 0", "put 1 line 0 1 3,3"}[r.Intn(6)]
	case 1, 2:
		return fmt.Sprintf("del %d", 1+r.Intn(5))
	case 3, 4, 5:
		f := someFeatures(r, 1)[0]
		text := fmt.Sprintf("put %d %s %d %d", 1+r.Intn(5), []string{"", "point", "line", "area"}[f.Kind], f.Height, f.Colour)
		for _, p := range f.Places {
			text += fmt.Sprintf(" %d,%d", p.X, p.Y)
		}
		return text
	case 6:
		return fmt.Sprintf("get 0 0 0 %s", slowMark("64x0"))
	}
	return someGet(r)
}

func someGet(r *rand.Rand) string {
	at := someTile(r)
	return fmt.Sprintf("get %d %d %d", at.Zoom, at.Column, at.Row)
}

// both are an atlas and the slow one, to which the same is done.
type both struct {
	t    *testing.T
	fast *atlas.Atlas
	slow *slowAtlas
}

func startBoth(t *testing.T, room int) both {
	return both{t, start(t, room), &slowAtlas{room: room}}
}

func (b both) send(session int, text string) {
	s := &b.slow.sessions[session]
	want := api.OK
	if len(s.queue) == 6 {
		want = api.ErrFull
	} else {
		s.queue = append(s.queue, text)
	}
	if e := b.fast.Send(session, text); e != want {
		b.t.Fatalf("Send(%d, %q): %d, want %d", session, text, e, want)
	}
}

func (b both) pick(session int) bool {
	s := &b.slow.sessions[session]
	what, done := fmt.Sprintf("%q", s.queue), s.done
	want := b.slow.pick(session)
	if did := picked(b.t, b.fast, session); did != want {
		b.t.Fatalf("step %d of %s: %v, want %v", done+1, what, did, want)
	}
	return want
}

func (b both) compare() {
	b.t.Helper()
	for session := range b.slow.sessions {
		s := &b.slow.sessions[session]
		if list := answers(b.t, b.fast, session); !slices.Equal(list, s.answers) {
			b.t.Fatalf("answers to %d: %q, want %q", session, list, s.answers)
		}
		s.answers = nil
	}
	if view := b.fast.Look(); view != b.slow.look() {
		b.t.Fatalf("Look: %+v, want %+v", view, b.slow.look())
	}
	for shard := range 4 {
		if list, e := b.fast.Kept(shard); !slices.Equal(list, b.slow.tiles(shard)) || e != api.OK {
			b.t.Fatalf("shard %d keeps %v, %d, want %v", shard, list, e, b.slow.tiles(shard))
		}
	}
}

func TestP5OneAtATimeAsTheWordsSay(t *testing.T) {
	r := rand.New(rand.NewSource(8))
	for room := range api.MaxRoom + 1 {
		b := startBoth(t, room)
		for range 500 {
			session := r.Intn(4)
			b.send(session, someRequest(r))
			for b.pick(session) {
			}
			b.compare()
		}
	}
}

func TestP5InAnyOrderAsTheWordsSay(t *testing.T) {
	r := rand.New(rand.NewSource(9))
	for round := range 60 {
		b := startBoth(t, round%9)
		for range 400 {
			if r.Intn(4) == 0 {
				b.send(r.Intn(4), someRequest(r))
			}
			b.pick(r.Intn(4))
			if r.Intn(3) == 0 {
				b.compare()
			}
		}
	}
}
