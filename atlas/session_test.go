package atlas_test

import (
	"fmt"
	"math"
	"slices"
	"strings"
	"testing"

	"atlas/api"
	"atlas/atlas"
)

func start(t *testing.T, room int) *atlas.Atlas {
	t.Helper()
	a, e := atlas.New(room)
	if a == nil || e != api.OK {
		t.Fatalf("New(%d): %v, %d", room, a, e)
	}
	return a
}

func send(t *testing.T, a *atlas.Atlas, session int, requests ...string) {
	t.Helper()
	for _, text := range requests {
		if e := a.Send(session, text); e != api.OK {
			t.Fatalf("Send(%d, %q): %d", session, text, e)
		}
	}
}

// picked tells whether a step was done.
func picked(t *testing.T, a *atlas.Atlas, session int) bool {
	t.Helper()
	did, e := a.Pick(session)
	if e != api.OK {
		t.Fatalf("Pick(%d): %d", session, e)
	}
	return did
}

func answers(t *testing.T, a *atlas.Atlas, session int) []string {
	t.Helper()
	list, e := a.Answers(session)
	if e != api.OK {
		t.Fatalf("Answers(%d): %d", session, e)
	}
	return list
}

// ask does a request to its end, and tells its answer and how many steps it took.
func ask(t *testing.T, a *atlas.Atlas, session int, request string) (string, int) {
	t.Helper()
	send(t, a, session, request)
	steps := 0
	for picked(t, a, session) {
		steps++
	}
	list := answers(t, a, session)
	if len(list) != 1 {
		t.Fatalf("%q: answers %q", request, list)
	}
	return list[0], steps
}

func asks(t *testing.T, a *atlas.Atlas, requests ...string) {
	t.Helper()
	for _, text := range requests {
		ask(t, a, 0, text)
	}
}

func wantKept(t *testing.T, a *atlas.Atlas, shard int, want ...api.Tile) {
	t.Helper()
	if list, e := a.Kept(shard); !slices.Equal(list, want) || e != api.OK {
		t.Errorf("shard %d keeps %v, %d, want %v", shard, list, e, want)
	}
}

func wantLook(t *testing.T, a *atlas.Atlas, features int, locked bool, waiting int) {
	t.Helper()
	want := api.View{Features: features, Locked: locked, Waiting: waiting}
	if view := a.Look(); view != want {
		t.Errorf("Look: %+v, want %+v", view, want)
	}
}

func TestP4Rooms(t *testing.T) {
	for room := range api.MaxRoom + 1 {
		a := start(t, room)
		wantLook(t, a, 0, false, 0)
		for shard := range api.Shards {
			wantKept(t, a, shard)
		}
	}
	for _, room := range []int{-1, 9, 1<<32 + 1, math.MinInt, math.MaxInt} {
		if a, e := atlas.New(room); a != nil || e != api.ErrArg {
			t.Errorf("New(%d): %v, %d", room, a, e)
		}
	}
}

func TestP4SendNamesTheFirstError(t *testing.T) {
	a := start(t, 1)
	long, longest := strings.Repeat("x", api.MaxRequest+1), strings.Repeat("x", api.MaxRequest)
	for _, session := range []int{-1, 4, 1 << 32, math.MinInt, math.MaxInt} {
		if e, f := a.Send(session, "del 1"), a.Send(session, long); e != api.ErrSession || f != api.ErrSession {
			t.Errorf("session %d: %d, %d", session, e, f)
		}
	}
	if e, f := a.Send(3, long), a.Send(3, strings.Repeat("é", 101)); e != api.ErrArg || f != api.ErrArg {
		t.Errorf("too long: %d, %d", e, f)
	}
	wantLook(t, a, 0, false, 0)
	send(t, a, 3, longest, "", "del 1", "\x00", "get 0 0 0", "x")
	for _, text := range []string{"del 1", "", long} {
		if e := a.Send(3, text); e != api.ErrFull {
			t.Errorf("a seventh request: %d", e)
		}
	}
	for session := range 3 {
		send(t, a, session, "del 1", "del 1", "del 1", "del 1", "del 1", "del 1")
	}
	wantLook(t, a, 0, false, api.Sessions*api.MaxQueue)
}

func TestP4RequestStandsInTheQueueUntilItIsAnswered(t *testing.T) {
	a := start(t, 1)
	send(t, a, 2, "put 1 point 0 1 0,0", "x", "x", "x", "x", "x")
	for step := range 6 {
		if e := a.Send(2, "y"); e != api.ErrFull {
			t.Errorf("behind %d steps: %d", step, e)
		}
		wantLook(t, a, 0, step > 0, 6)
		picked(t, a, 2)
	}
	wantLook(t, a, 1, false, 5)
	send(t, a, 2, "y")
	if e := a.Send(2, "y"); e != api.ErrFull {
		t.Errorf("a seventh request behind an answer: %d", e)
	}
}

func TestP5WrongSessions(t *testing.T) {
	a := start(t, 1)
	send(t, a, 0, "x", "x")
	picked(t, a, 0)
	for _, session := range []int{-1, 4, 1 << 32, math.MinInt, math.MaxInt} {
		did, e := a.Pick(session)
		list, f := a.Answers(session)
		if did || e != api.ErrSession || len(list) != 0 || f != api.ErrSession {
			t.Errorf("session %d: %v, %d, %q, %d", session, did, e, list, f)
		}
	}
	wantLook(t, a, 0, false, 1)
	if list := answers(t, a, 0); !slices.Equal(list, []string{"400"}) {
		t.Errorf("answers of session 0: %q", list)
	}
}

func TestP5AnswersAreToldOnceAndInOrder(t *testing.T) {
	a := start(t, 1)
	if picked(t, a, 1) || len(answers(t, a, 1)) != 0 {
		t.Errorf("something was done without a request")
	}
	send(t, a, 1, "del 1", "x", "put 1 point 0 1 0,0", "put 1 point 0 2 0,0", "del 1", "del 1")
	send(t, a, 2, "x")
	for picked(t, a, 1) {
	}
	if list := answers(t, a, 1); !slices.Equal(list, []string{"404", "400", "201", "200", "200", "404"}) {
		t.Errorf("answers: %q", list)
	}
	if list := answers(t, a, 1); len(list) != 0 {
		t.Errorf("told again: %q", list)
	}
	if list := answers(t, a, 2); len(list) != 0 {
		t.Errorf("to a session whose request was not picked: %q", list)
	}
	wantLook(t, a, 0, false, 1)
}

func TestP5Examples(t *testing.T) {
	a := start(t, 2)
	drawn, body, _ := atlas.Draw([]api.Feature{point(40, 0)}, tile(0, 0, 0))
	for _, c := range []struct {
		session       int
		request, want string
		steps         int
	}{
		{0, "put 1 point 0 3 40,0", "201", 6},
		{1, "get 0 0 0", "200 " + drawn + " " + body, 3},
		{1, "get 0 0 0 " + drawn, "304 " + drawn, 1},
		{2, "get 4 0 0", "400", 1},
		{2, "get 0 0 0 ", "400", 1},
		{2, "del 5", "404", 6},
	} {
		if answer, steps := ask(t, a, c.session, c.request); answer != c.want || steps != c.steps {
			t.Errorf("%q: %q in %d steps, want %q in %d", c.request, answer, steps, c.want, c.steps)
		}
	}
}

func TestP5GetWithAndWithoutMark(t *testing.T) {
	mark, body, _ := atlas.Draw(nil, tile(1, 1, 0))
	whole := "200 " + mark + " " + body
	for _, c := range []struct{ mark, want string }{
		{"", whole}, {" " + mark, "304 " + mark}, {" 00000000", whole}, {" " + strings.ToUpper(mark), whole},
		{" \x00\xff\t\n,-+x", whole}, {" " + mark[:7] + "!", whole},
	} {
		for _, room := range []int{0, 1} {
			a := start(t, room)
			for round := range 2 {
				answer, steps := ask(t, a, 0, "get 1 1 0"+c.mark)
				wantSteps := 3 - 2*round*room
				if answer != c.want || steps != wantSteps {
					t.Errorf("room %d, mark %q: %q in %d steps, want %q in %d", room, c.mark, answer, steps, c.want, wantSteps)
				}
			}
		}
	}
}

func TestP5PutOverAFeature(t *testing.T) {
	a := start(t, 8)
	for _, c := range []struct{ request, want string }{
		{"put 7 area 2 4 0,0 255,0 255,255 0,255", "201"},
		{"get 3 7 7", " 64x4"},
		{"put 7 point 0 5 255,255", "200"},
		{"get 3 7 7", " 63x0,1x5"},
		{"get 0 0 0", " 63x0,1x5"},
		{"put 8 point 1 6 255,255", "201"},
		{"get 3 7 7", " 63x0,1x6"},
		{"put 8 point -1 6 255,255", "200"},
		{"get 3 7 7", " 63x0,1x5"},
		{"del 7", "200"},
		{"get 3 7 7", " 63x0,1x6"},
		{"put 7 line 0 1 192,192 255,192", "201"},
		{"get 2 3 3", " 8x1,55x0,1x6"},
		{"del 8", "200"},
		{"del 7", "200"},
		{"del 7", "404"},
		{"get 2 3 3", " 64x0"},
	} {
		if answer, _ := ask(t, a, 0, c.request); !strings.HasSuffix(answer, c.want) {
			t.Errorf("%q: %q, want %q", c.request, answer, c.want)
		}
	}
	wantLook(t, a, 0, false, 0)
}

func TestP5ManyFeaturesComeAndGo(t *testing.T) {
	a := start(t, 8)
	for id := 1; id <= api.MaxId; id++ {
		if answer, _ := ask(t, a, 0, fmt.Sprintf("put %d point 0 1 %d,%d", id, id, 255-id)); answer != "201" {
			t.Fatalf("put %d: %q", id, answer)
		}
		wantLook(t, a, id, false, 0)
	}
	for id := api.MaxId; id >= 1; id-- {
		if answer, _ := ask(t, a, 0, fmt.Sprintf("del %d", id)); answer != "200" {
			t.Fatalf("del %d: %q", id, answer)
		}
		wantLook(t, a, id-1, false, 0)
	}
}

func TestP5BlockedPicksDoNothing(t *testing.T) {
	a := start(t, 8)
	asks(t, a, "put 1 point 0 1 0,0", "get 0 0 0")
	send(t, a, 0, "put 2 point 0 2 255,255")
	send(t, a, 1, "del 1")
	send(t, a, 2, "get 3 0 0")
	send(t, a, 3, "get 0 0 0")
	if !picked(t, a, 0) || !picked(t, a, 2) || !picked(t, a, 3) {
		t.Errorf("first steps of a put, and of gets while the map is locked")
	}
	if list := answers(t, a, 3); len(list) != 1 {
		t.Errorf("a tile that is kept is told while the map is locked: %q", list)
	}
	for range 5 {
		if picked(t, a, 1) || picked(t, a, 2) {
			t.Errorf("the map is locked, but a del or a get went on")
		}
		wantLook(t, a, 1, true, 3)
		if !picked(t, a, 0) {
			t.Errorf("the put that has locked the map is blocked")
		}
	}
	wantLook(t, a, 2, false, 2)
	for range 2 {
		if !picked(t, a, 2) {
			t.Errorf("the get is still blocked")
		}
	}
	for range 6 {
		if !picked(t, a, 1) {
			t.Errorf("the del is still blocked")
		}
	}
	wantLook(t, a, 1, false, 0)
}

func TestP6WrongShards(t *testing.T) {
	a := start(t, 8)
	asks(t, a, "get 0 0 0", "get 1 0 0", "get 1 1 0", "get 1 1 1")
	for shard, at := range []api.Tile{tile(0, 0, 0), tile(1, 0, 0), tile(1, 1, 0), tile(1, 1, 1)} {
		wantKept(t, a, shard, at)
	}
	for _, shard := range []int{-1, 4, 1 << 32, math.MinInt, math.MaxInt} {
		if list, e := a.Kept(shard); len(list) != 0 || e != api.ErrArg {
			t.Errorf("shard %d: %v, %d", shard, list, e)
		}
	}
}

func TestP6LeastUsedTileIsLetGo(t *testing.T) {
	// These are all of shard 2.
	a := start(t, 3)
	asks(t, a, "get 1 1 0", "get 1 0 1", "get 2 0 0")
	wantKept(t, a, 2, tile(1, 1, 0), tile(1, 0, 1), tile(2, 0, 0))
	asks(t, a, "get 1 0 1")
	wantKept(t, a, 2, tile(1, 1, 0), tile(2, 0, 0), tile(1, 0, 1))
	asks(t, a, "get 1 1 0 abcdefgh")
	wantKept(t, a, 2, tile(2, 0, 0), tile(1, 0, 1), tile(1, 1, 0))
	asks(t, a, "get 3 3 0", "get 3 3 0")
	wantKept(t, a, 2, tile(1, 0, 1), tile(1, 1, 0), tile(3, 3, 0))
	asks(t, a, "get 1 0 1", "get 3 0 3", "get 3 7 0")
	wantKept(t, a, 2, tile(1, 0, 1), tile(3, 0, 3), tile(3, 7, 0))
	asks(t, a, "get 0 0 0", "get 4 0 0", "get 2 0 0 x", "del 9")
	wantKept(t, a, 2, tile(1, 0, 1), tile(3, 0, 3), tile(3, 7, 0))
}

func TestP6RoomIsForEachShard(t *testing.T) {
	for room := range api.MaxRoom + 1 {
		a := start(t, room)
		var last [api.Shards][]api.Tile
		for n := range 64 {
			at := tile(3, n%8, n/8)
			asks(t, a, fmt.Sprintf("get 3 %d %d", at.Column, at.Row))
			shard := (at.Zoom + at.Column + at.Row) % 4
			last[shard] = append(last[shard], at)
		}
		for shard, list := range last {
			wantKept(t, a, shard, list[len(list)-room:]...)
		}
	}
}

func TestP6TwoThatDrawTheSameTile(t *testing.T) {
	a := start(t, 8)
	send(t, a, 0, "get 0 0 0")
	send(t, a, 1, "get 0 0 0")
	picked(t, a, 0)
	picked(t, a, 0)
	picked(t, a, 1)
	picked(t, a, 0)
	ask(t, a, 2, "get 2 1 1")
	wantKept(t, a, 0, tile(0, 0, 0), tile(2, 1, 1))
	picked(t, a, 1)
	picked(t, a, 1)
	wantKept(t, a, 0, tile(2, 1, 1), tile(0, 0, 0))
}

func keptOf(t *testing.T, a *atlas.Atlas, zoom int) map[api.Tile]bool {
	t.Helper()
	kept := map[api.Tile]bool{}
	for shard := range api.Shards {
		list, _ := a.Kept(shard)
		for _, at := range list {
			kept[at] = at.Zoom == zoom
		}
	}
	return kept
}

func TestP6ChangesForgetWhatMeetsTheBox(t *testing.T) {
	for _, c := range []struct {
		name     string
		requests []string
		gone     []api.Tile // of zoom 2, all of which were kept
	}{
		{"a point within", []string{"put 1 point 0 1 100,100"}, []api.Tile{tile(2, 1, 1)}},
		{"a point at the end of the world", []string{"put 1 point 0 1 255,0"}, []api.Tile{tile(2, 3, 0)}},
		{"a point on a side", []string{"put 1 point 0 1 128,100"}, []api.Tile{tile(2, 1, 1), tile(2, 2, 1)}},
		{"a point ahead of a side", []string{"put 1 point 0 1 127,100"}, []api.Tile{tile(2, 1, 1)}},
		{"a point behind a side", []string{"put 1 point 0 1 129,100"}, []api.Tile{tile(2, 2, 1)}},
		{"a point on a corner", []string{"put 1 point 0 1 64,192"}, []api.Tile{tile(2, 0, 2), tile(2, 1, 2), tile(2, 0, 3), tile(2, 1, 3)}},
		{"the box of a line", []string{"put 1 line 0 1 70,10 130,70"}, []api.Tile{tile(2, 1, 0), tile(2, 2, 0), tile(2, 1, 1), tile(2, 2, 1)}},
		{"a del of none", []string{"del 1"}, nil},
		{"one that is not good", []string{"put 1 point 0 0 1,1", "del 0"}, nil},
	} {
		a := start(t, 8)
		askZoom2(t, a)
		asks(t, a, c.requests...)
		wantGone(t, a, c.name, c.gone)
	}
}

func TestP6ChangesForgetWhereAFeatureWas(t *testing.T) {
	a := start(t, 8)
	asks(t, a, "put 1 point 0 1 1,1")
	askZoom2(t, a)
	asks(t, a, "put 1 point 0 1 250,250")
	wantGone(t, a, "put elsewhere", []api.Tile{tile(2, 0, 0), tile(2, 3, 3)})
	askZoom2(t, a)
	asks(t, a, "del 1")
	wantGone(t, a, "del", []api.Tile{tile(2, 3, 3)})
	askZoom2(t, a)
	asks(t, a, "del 1")
	wantGone(t, a, "del again", nil)
}

func askZoom2(t *testing.T, a *atlas.Atlas) {
	t.Helper()
	for n := range 16 {
		asks(t, a, fmt.Sprintf("get 2 %d %d", n%4, n/4))
	}
}

func wantGone(t *testing.T, a *atlas.Atlas, name string, gone []api.Tile) {
	t.Helper()
	kept := keptOf(t, a, 2)
	for n := range 16 {
		at := tile(2, n%4, n/4)
		if kept[at] == slices.Contains(gone, at) {
			t.Errorf("%s: %v is kept: %v", name, at, kept[at])
		}
	}
}

func TestP6EachZoomIsForgottenInItsStep(t *testing.T) {
	a := start(t, 8)
	tiles := []api.Tile{tile(0, 0, 0), tile(1, 0, 0), tile(2, 0, 0), tile(3, 0, 0)}
	for _, at := range tiles {
		asks(t, a, fmt.Sprintf("get %d 0 0", at.Zoom))
	}
	send(t, a, 0, "put 1 point 0 1 0,0")
	for step := 1; step <= 6; step++ {
		picked(t, a, 0)
		for shard, at := range tiles {
			if shard < step-1 {
				wantKept(t, a, shard)
			} else {
				wantKept(t, a, shard, at)
			}
		}
		wantLook(t, a, step/6, step < 6, 1-step/6)
	}
}

func TestP6TileDrawnOfAnOlderMapIsNotKept(t *testing.T) {
	for _, c := range []struct {
		request string
		kept    []api.Tile
	}{
		{"put 1 point 0 1 1,1", nil},
		{"put 1 point 0 1 70,40", nil}, // meets another tile of its shard, 2 1 0
		{"put 1 point 0 1 40,10", []api.Tile{tile(3, 0, 0)}},
		{"del 1", []api.Tile{tile(3, 0, 0)}},
	} {
		a := start(t, 8)
		send(t, a, 1, "get 3 0 0")
		picked(t, a, 1)
		picked(t, a, 1)
		asks(t, a, c.request)
		picked(t, a, 1)
		mark, body, _ := atlas.Draw(nil, tile(3, 0, 0))
		if list := answers(t, a, 1); !slices.Equal(list, []string{"200 " + mark + " " + body}) {
			t.Errorf("behind %q: %q", c.request, list)
		}
		wantKept(t, a, 3, c.kept...)
	}
}

func TestP2AnswersAreTheCallers(t *testing.T) {
	a := start(t, 8)
	asks(t, a, "get 0 0 0", "get 2 1 1", "get 2 0 2")
	send(t, a, 0, "x", "x", "del 1")
	picked(t, a, 0)
	told := answers(t, a, 0)
	kept, _ := a.Kept(0)
	other, _ := a.Kept(0)
	told, kept = told[:cap(told)], kept[:cap(kept)]
	for i := range told {
		told[i] = "mine"
	}
	for i := range kept {
		kept[i] = tile(9, 9, 9)
	}
	want := []api.Tile{tile(0, 0, 0), tile(2, 1, 1), tile(2, 0, 2)}
	if !slices.Equal(other, want) {
		t.Errorf("two answers share memory: %v", other)
	}
	wantKept(t, a, 0, want...)
	for picked(t, a, 0) {
	}
	if list := answers(t, a, 0); !slices.Equal(list, []string{"400", "404"}) {
		t.Errorf("answers behind others that were written into: %q", list)
	}
	if told[0] != "mine" {
		t.Errorf("what was told was written into: %q", told)
	}
}

func TestP2AtlasesHaveNothingToDoWithEachOther(t *testing.T) {
	a, b := start(t, 2), start(t, 2)
	asks(t, a, "put 1 point 0 1 0,0", "get 0 0 0")
	send(t, a, 1, "del 1")
	picked(t, a, 1)
	wantLook(t, a, 1, true, 1)
	wantLook(t, b, 0, false, 0)
	wantKept(t, b, 0)
	if answer, steps := ask(t, b, 0, "get 0 0 0"); !strings.HasSuffix(answer, " 64x0") || steps != 3 {
		t.Errorf("another atlas: %q in %d steps", answer, steps)
	}
}
