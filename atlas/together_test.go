package atlas_test

import (
	"fmt"
	"math"
	"math/rand"
	"slices"
	"strings"
	"testing"

	"atlas/api"
	"atlas/atlas"
)

// goOn picks sessions whose requests are not blocked, one behind the other.
func goOn(t *testing.T, a *atlas.Atlas, sessions ...int) {
	t.Helper()
	for i, session := range sessions {
		if !picked(t, a, session) {
			t.Fatalf("pick %d of %v did nothing", i, sessions)
		}
	}
}

func blocked(t *testing.T, a *atlas.Atlas, sessions ...int) {
	t.Helper()
	for _, session := range sessions {
		if picked(t, a, session) {
			t.Fatalf("session %d is not blocked", session)
		}
	}
}

// wantTold holds the answers that were not told yet against ends of answers.
func wantTold(t *testing.T, a *atlas.Atlas, session int, want ...string) {
	t.Helper()
	if list := answers(t, a, session); !slices.EqualFunc(list, want, strings.HasSuffix) {
		t.Errorf("session %d was told %q, want %q", session, list, want)
	}
}

// times is the session as often as a number of its steps takes.
func times(session, steps int) []int {
	return slices.Repeat([]int{session}, steps)
}

// A point at 0,0 meets of each zoom just one tile, and each is of another shard:
// so what is done to a tile is done in the step of its zoom alone.
const atCorner = "put 1 point 0 1 0,0"

func eachZoomAndStep(from, to int, do func(zoom, step int)) {
	for zoom := range api.MaxZoom + 1 {
		for step := from; step <= to; step++ {
			do(zoom, step)
		}
	}
}

func TestP5GetDrawnWhileAPutGoesOn(t *testing.T) {
	eachZoomAndStep(0, 6, func(zoom, step int) {
		a, at := start(t, 1), tile(zoom, 0, 0)
		get := fmt.Sprintf("get %d 0 0", zoom)
		send(t, a, 0, get)
		send(t, a, 1, atCorner)
		goOn(t, a, 0, 0)
		goOn(t, a, times(1, step)...)
		goOn(t, a, 0)
		wantTold(t, a, 0, " 64x0")
		if step < zoom+2 {
			wantKept(t, a, zoom, at)
		} else {
			wantKept(t, a, zoom)
		}
		goOn(t, a, times(1, 6-step)...)
		wantKept(t, a, zoom)
		if answer, steps := ask(t, a, 2, get); !strings.HasSuffix(answer, " 1x1,63x0") || steps != 3 {
			t.Errorf("zoom %d, drawn behind step %d: then %q in %d steps", zoom, step, answer, steps)
		}
	})
}

func TestP5BlockedGetGoesOn(t *testing.T) {
	eachZoomAndStep(0, 5, func(zoom, step int) {
		a := start(t, 1)
		send(t, a, 0, fmt.Sprintf("get %d 0 0", zoom))
		send(t, a, 1, atCorner)
		goOn(t, a, times(1, step)...)
		goOn(t, a, 0)
		for range 6 - step {
			if a.Look().Locked {
				blocked(t, a, 0, 0)
			}
			goOn(t, a, 1)
		}
		wantTold(t, a, 0)
		goOn(t, a, 0, 0)
		wantTold(t, a, 0, " 1x1,63x0")
		// Its tile is right either way, but kept only if the age was noted behind the step of its zoom.
		if step < zoom+2 {
			wantKept(t, a, zoom)
		} else {
			wantKept(t, a, zoom, tile(zoom, 0, 0))
		}
	})
}

func TestP5KeptTileIsToldUntilItsZoomIsForgotten(t *testing.T) {
	eachZoomAndStep(0, 6, func(zoom, step int) {
		a := start(t, 1)
		get := fmt.Sprintf("get %d 0 0", zoom)
		asks(t, a, get)
		send(t, a, 1, atCorner)
		goOn(t, a, times(1, step)...)
		send(t, a, 2, get)
		goOn(t, a, 2)
		if step < zoom+2 {
			wantTold(t, a, 2, " 64x0")
			return
		}
		wantTold(t, a, 2)
		goOn(t, a, times(1, 6-step)...)
		goOn(t, a, 2, 2)
		wantTold(t, a, 2, " 1x1,63x0")
	})
}

func TestP5TwoPutsAtATime(t *testing.T) {
	a := start(t, 8)
	send(t, a, 0, atCorner, "get 3 0 0")
	send(t, a, 1, "put 1 point 0 2 255,255", "get 3 0 0", "get 3 7 7")
	goOn(t, a, 0)
	for range 5 {
		blocked(t, a, 1, 1)
		wantLook(t, a, 0, true, 5)
		goOn(t, a, 0)
	}
	wantTold(t, a, 0, "201")
	goOn(t, a, 0, 0, 0)
	wantTold(t, a, 0, " 1x1,63x0")
	// The second forgets where the feature of the first is by now, of which nothing was there when it was sent.
	goOn(t, a, times(1, 6)...)
	wantTold(t, a, 1, "200")
	wantKept(t, a, 3)
	wantLook(t, a, 1, false, 2)
	goOn(t, a, times(1, 6)...)
	wantTold(t, a, 1, " 64x0", " 63x0,1x2")
}

func TestP5WhoeverIsPickedFirstLocks(t *testing.T) {
	for first := 1; first < api.Sessions; first++ {
		a := start(t, 8)
		send(t, a, 0, "put 1 point 0 1 0,0")
		send(t, a, 1, "put 1 point 0 2 0,0")
		send(t, a, 2, "put 1 point 0 3 0,0")
		send(t, a, 3, "del 1")
		goOn(t, a, 0)
		blocked(t, a, 1, 2, 3, 3, 2, 1)
		goOn(t, a, times(0, 5)...)
		goOn(t, a, first)
		for session := 1; session < api.Sessions; session++ {
			if session != first {
				blocked(t, a, session)
			}
		}
		goOn(t, a, times(first, 5)...)
		wantTold(t, a, first, "200")
		wantLook(t, a, 1-first/3, false, 2)
	}
}

func TestP5DelOfWhatIsJustPut(t *testing.T) {
	a := start(t, 8)
	send(t, a, 0, atCorner)
	send(t, a, 1, "del 1", "del 1")
	send(t, a, 2, "get 0 0 0")
	goOn(t, a, 2, 0)
	blocked(t, a, 1, 2)
	goOn(t, a, times(0, 5)...)
	goOn(t, a, 1)
	blocked(t, a, 2)
	goOn(t, a, times(1, 5)...)
	wantTold(t, a, 1, "200")
	goOn(t, a, 2, 2)
	wantTold(t, a, 2, " 64x0")
	wantKept(t, a, 0)
	goOn(t, a, times(1, 6)...)
	wantTold(t, a, 1, "404")
}

func TestP5GetBetweenTwoPuts(t *testing.T) {
	for _, c := range []struct {
		name   string
		orders [3][]int // of session 1, the get: its second step stands in the middle
		kept   []api.Tile
	}{
		{"behind the first", [3][]int{times(0, 6), {1, 1}, {1}}, []api.Tile{tile(3, 0, 0)}},
		{"begun ahead of the first", [3][]int{append([]int{1}, times(0, 6)...), {1}, {1}}, nil},
		{"drawn behind the second", [3][]int{times(0, 6), {1, 1}, append(times(0, 6), 1)}, nil},
		{"drawn while the second goes on", [3][]int{times(0, 6), {1, 1}, append(times(0, 4), 1)}, []api.Tile{tile(3, 0, 0)}},
		{"both", [3][]int{append([]int{1}, times(0, 6)...), {1}, append(times(0, 6), 1)}, nil},
	} {
		a := start(t, 8)
		send(t, a, 0, atCorner, "put 1 point 0 2 0,0")
		send(t, a, 1, "get 3 0 0")
		for _, order := range c.orders {
			goOn(t, a, order...)
		}
		wantTold(t, a, 1, " 1x1,63x0")
		if list, _ := a.Kept(3); !slices.Equal(list, c.kept) {
			t.Errorf("%s: kept %v, want %v", c.name, list, c.kept)
		}
	}
}

func TestP5OtherRequestsAreNotBlocked(t *testing.T) {
	a := start(t, 8)
	asks(t, a, "get 3 7 7")
	send(t, a, 0, atCorner)
	goOn(t, a, 0, 0, 0, 0, 0)
	send(t, a, 1, "x", "get 3 7 7", "get 9 9 9", "get 3 7 7 "+slowMark("64x0"))
	goOn(t, a, 1, 1, 1, 1)
	wantTold(t, a, 1, "400", " 64x0", "400", "304 "+slowMark("64x0"))
	wantLook(t, a, 0, true, 1)
}

// someMarked asks for a tile that it was told, with the mark that was told then.
func someMarked(r *rand.Rand, told map[string]string) string {
	get := someGet(r)
	if mark := told[get]; mark != "" && r.Intn(2) == 0 {
		return get + " " + mark
	}
	return get
}

func TestP8AnswersAreTheSameWithAnyRoom(t *testing.T) {
	r := rand.New(rand.NewSource(11))
	told := map[string]string{}
	var rooms [api.MaxRoom + 1]*atlas.Atlas
	for room := range rooms {
		rooms[room] = start(t, room)
	}
	codes := map[string]int{}
	for range 1500 {
		request, session := someRequest(r), r.Intn(api.Sessions)
		if r.Intn(2) == 0 {
			request = someMarked(r, told)
		}
		want, _ := ask(t, rooms[0], session, request)
		for room, a := range rooms[1:] {
			if answer, _ := ask(t, a, session, request); answer != want {
				t.Fatalf("%q with room %d: %q, with none %q", request, room+1, answer, want)
			}
		}
		if words := strings.Fields(want); len(words) == 3 {
			told[strings.Join(strings.Fields(request)[:4], " ")] = words[1]
		}
		codes[want[:3]]++
	}
	for _, code := range []string{"200", "201", "304", "400", "404"} {
		if codes[code] < 10 {
			t.Errorf("%s was answered %d times", code, codes[code])
		}
	}
}

func TestP8KeptTilesAreToldSooner(t *testing.T) {
	none, one := start(t, 0), start(t, 1)
	asks(t, none, "get 0 0 0")
	asks(t, one, "get 0 0 0")
	answer, steps := ask(t, none, 0, "get 0 0 0")
	same, fewer := ask(t, one, 0, "get 0 0 0")
	if answer != same || steps != 3 || fewer != 1 {
		t.Errorf("%q in %d steps, %q in %d", answer, steps, same, fewer)
	}
}

func wantWithinRoom(t *testing.T, a *atlas.Atlas, room int) {
	t.Helper()
	for shard := range api.Shards {
		if list, e := a.Kept(shard); len(list) > room || e != api.OK {
			t.Fatalf("room %d, shard %d: %v, %d", room, shard, list, e)
		}
	}
}

func TestP9NeverMoreThanItsRoom(t *testing.T) {
	r := rand.New(rand.NewSource(12))
	var most [api.MaxRoom + 1]int
	for room := range most {
		a := start(t, room)
		for range 4000 {
			switch r.Intn(40) {
			case 0:
				a.Send(r.Intn(api.Sessions), someRequest(r))
			case 1, 2, 3, 4, 5, 6, 7, 8, 9, 10:
				a.Send(r.Intn(api.Sessions), someGet(r))
			}
			picked(t, a, r.Intn(api.Sessions))
			wantWithinRoom(t, a, room)
			list, _ := a.Kept(r.Intn(api.Shards))
			most[room] = max(most[room], len(list))
		}
		if most[room] != room {
			t.Errorf("room %d: only %d tiles were kept at most", room, most[room])
		}
	}
}

// someStep picks the sessions in the order until a step was done.
func someStep(t *testing.T, a *atlas.Atlas, order []int) bool {
	t.Helper()
	return slices.ContainsFunc(order, func(session int) bool { return picked(t, a, session) })
}

func TestP9SomePickDoesAStep(t *testing.T) {
	r := rand.New(rand.NewSource(13))
	for round := range 200 {
		a := start(t, round%(api.MaxRoom+1))
		for range 24 {
			a.Send(r.Intn(1+round%api.Sessions), someRequest(r))
		}
		steps, most := 0, 6*a.Look().Waiting
		for a.Look().Waiting > 0 {
			if !someStep(t, a, r.Perm(api.Sessions)) {
				t.Fatalf("all are blocked: %+v", a.Look())
			}
			steps++
		}
		if a.Look().Locked || steps > most {
			t.Fatalf("behind %d steps: %+v", steps, a.Look())
		}
		blocked(t, a, 0, 1, 2, 3)
	}
}

func TestP9EveryoneWaitsForOne(t *testing.T) {
	for holder := range api.Sessions {
		a := start(t, 1)
		order := []int{0, 1, 2, 3}
		for _, session := range order {
			send(t, a, session, atCorner, "get 0 0 0", "del 1")
		}
		goOn(t, a, holder)
		order = append(slices.Delete(order, holder, holder+1), holder)
		for a.Look().Waiting > 0 {
			if !someStep(t, a, order) {
				t.Fatalf("all are blocked: %+v", a.Look())
			}
		}
		for session := range api.Sessions {
			if list := answers(t, a, session); len(list) != 3 {
				t.Errorf("session %d was answered %q", session, list)
			}
		}
	}
}

// call is a call on an atlas, with what it answers as a text.
type call func(a *atlas.Atlas) (string, api.Errno)

// someCall has often an argument that is wrong. Lists that come out are written over.
func someCall(r *rand.Rand) call {
	numbers := []int{-1, 4, math.MinInt, math.MaxInt, 1 << 32}
	n := r.Intn(4)
	if r.Intn(5) == 0 {
		n = numbers[r.Intn(len(numbers))]
	}
	switch r.Intn(8) {
	case 0:
		return func(a *atlas.Atlas) (string, api.Errno) {
			list, e := a.Answers(n)
			return spoiled(list), e
		}
	case 1:
		return func(a *atlas.Atlas) (string, api.Errno) {
			list, e := a.Kept(n)
			return spoiled(list), e
		}
	case 2:
		return func(a *atlas.Atlas) (string, api.Errno) { return fmt.Sprint(a.Look()), api.OK }
	case 3, 4:
		request := someText(r)
		return func(a *atlas.Atlas) (string, api.Errno) { return "", a.Send(n, request) }
	}
	return func(a *atlas.Atlas) (string, api.Errno) {
		did, e := a.Pick(n)
		return fmt.Sprint(did), e
	}
}

// spoiled is the list as a text, ahead of being written over, with its spare room.
func spoiled[T any](list []T) string {
	text := fmt.Sprint(list)
	clear(list[:cap(list)])
	return text
}

// someText is a request, or one that was cut, made longer than may be, or has a byte that is wrong.
func someText(r *rand.Rand) string {
	text := []byte(someRequest(r))
	switch r.Intn(8) {
	case 0:
		text = text[:r.Intn(len(text)+1)]
	case 1:
		text = append(text, strings.Repeat(" 1,1", r.Intn(100))...)
	case 2:
		if len(text) > 0 {
			text[r.Intn(len(text))] = byte(r.Intn(256))
		}
	}
	return string(text)
}

func TestP1WithAnErrorNothingIsChanged(t *testing.T) {
	r := rand.New(rand.NewSource(14))
	var seen [api.ErrFull + 1]int
	for round := range 40 {
		// The second atlas sees none of the calls that are wrong.
		a, b := start(t, round%9), start(t, round%9)
		for range 500 {
			c := someCall(r)
			got, e := c(a)
			seen[e]++
			if e != api.OK {
				if got != "" && got != "[]" && got != "false" {
					t.Fatalf("%q with the error %d", got, e)
				}
				continue
			}
			if want, _ := c(b); got != want {
				t.Fatalf("%q, without the calls that were wrong %q", got, want)
			}
		}
	}
	if slices.Contains(seen[:], 0) {
		t.Errorf("some error was never answered: %v", seen)
	}
}

func TestP2AtlasesSideBySide(t *testing.T) {
	r := rand.New(rand.NewSource(15))
	for round := range 40 {
		alone, beside, other := start(t, round%9), start(t, round%9), start(t, r.Intn(9))
		var calls []call
		var told []string
		for range 500 {
			c := someCall(r)
			got, e := c(beside)
			calls, told = append(calls, c), append(told, fmt.Sprint(got, e))
			someCall(r)(other)
		}
		for i, c := range calls {
			got, e := c(alone)
			if text := fmt.Sprint(got, e); text != told[i] {
				t.Fatalf("call %d: %q, beside another atlas %q", i, text, told[i])
			}
		}
	}
}
