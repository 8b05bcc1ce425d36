package atlas_test

import (
	"fmt"
	"math/rand"
	"slices"
	"testing"

	"atlas/api"
	"atlas/atlas"
)

// Here is written down when each request began and what it was answered, and a
// row is looked for in which the same requests, done one behind the other on a
// plain list of features, have the same answers.

// deed is a request that was answered; first and last are the times of its steps.
type deed struct {
	request, answer string
	first, last     int
}

// record is an atlas and the deeds of its sessions.
type record struct {
	t       *testing.T
	atlas   *atlas.Atlas
	time    int
	waiting [api.Sessions][]string
	begun   [api.Sessions]int // when the first request that waits began; 0, if it did not
	deeds   [api.Sessions][]deed
}

func startRecord(t *testing.T, room int) *record {
	t.Helper()
	return &record{t: t, atlas: start(t, room)}
}

func (r *record) send(session int, requests ...string) {
	r.t.Helper()
	send(r.t, r.atlas, session, requests...)
	r.waiting[session] = append(r.waiting[session], requests...)
}

func (r *record) pick(session int) bool {
	r.t.Helper()
	if !picked(r.t, r.atlas, session) {
		return false
	}
	r.time++
	if r.begun[session] == 0 {
		r.begun[session] = r.time
	}
	for _, answer := range answers(r.t, r.atlas, session) {
		d := deed{r.waiting[session][0], answer, r.begun[session], r.time}
		r.deeds[session] = append(r.deeds[session], d)
		r.waiting[session], r.begun[session] = r.waiting[session][1:], 0
	}
	return true
}

// ask does the requests to their end.
func (r *record) ask(session int, requests ...string) {
	r.t.Helper()
	r.send(session, requests...)
	for r.pick(session) {
	}
}

func (r *record) wantRow(rows *rows) {
	r.t.Helper()
	if !rows.has(r.deeds) {
		r.t.Fatalf("there is no row for\n%+v\n%+v\n%+v\n%+v", r.deeds[0], r.deeds[1], r.deeds[2], r.deeds[3])
	}
}

// rows looks for rows; what a request is answered by a map is worked out once.
type rows struct {
	answers map[string]outcome
}

type outcome struct {
	answer   string
	features []api.Feature
}

func newRows() *rows {
	return &rows{answers: map[string]outcome{}}
}

// alone is what comes of a request that is done from its first step to its last, with nothing kept.
func (r *rows) alone(features []api.Feature, request string) outcome {
	key := fmt.Sprint(features, request)
	o, ok := r.answers[key]
	if !ok {
		a := slowAtlas{features: slices.Clip(features)}
		a.sessions[0].queue = []string{request}
		for a.pick(0) {
		}
		o = outcome{a.sessions[0].answers[0], a.features}
		r.answers[key] = o
	}
	return o
}

func (r *rows) has(deeds [api.Sessions][]deed) bool {
	return r.goesOn(deeds, nil, map[string]bool{})
}

// goesOn tells whether the deeds that are left can follow on a map with these features.
func (r *rows) goesOn(left [api.Sessions][]deed, features []api.Feature, dead map[string]bool) bool {
	key := fmt.Sprint(len(left[0]), len(left[1]), len(left[2]), len(left[3]), features)
	if dead[key] {
		return false
	}
	dead[key] = true
	ended := true
	for session, list := range left {
		if len(list) == 0 {
			continue
		}
		ended = false
		o := r.alone(features, list[0].request)
		if !mayBeNext(left, list[0]) || o.answer != list[0].answer {
			continue
		}
		rest := left
		rest[session] = list[1:]
		if r.goesOn(rest, o.features, dead) {
			return true
		}
	}
	return ended
}

// A session's first deed that is left is the one of its deeds that was answered first.
func mayBeNext(left [api.Sessions][]deed, d deed) bool {
	for _, list := range left {
		if len(list) > 0 && list[0].last < d.first {
			return false
		}
	}
	return true
}

// Without this a search that finds a row for anything would let all tests of P7 pass.
func TestP7WhatIsARow(t *testing.T) {
	old, now := slowAnswer("64x0", ""), slowAnswer("64x5", "")
	const put, get = "put 1 area 0 5 0,0 255,0 255,255 0,255", "get 3 1 1"
	for _, c := range []struct {
		name  string
		deeds [api.Sessions][]deed
		want  bool
	}{
		{"nothing", [4][]deed{}, true},
		{"a get at the time of a put", [4][]deed{{{put, "201", 1, 6}}, {{get, old, 2, 4}}}, true},
		{"a get that is ahead of its time", [4][]deed{{{put, "201", 1, 6}}, {{get, now, 2, 4}}}, true},
		{"an old tile behind a put", [4][]deed{{{put, "201", 1, 6}}, {{get, old, 7, 9}}}, false},
		{"an old tile from the time of a put", [4][]deed{{{put, "201", 1, 6}}, {{get, old, 5, 9}}}, true},
		{"a new tile ahead of a put", [4][]deed{{{put, "201", 4, 9}}, {{get, now, 1, 3}}}, false},
		{"old, then new", [4][]deed{{{put, "201", 1, 9}}, {{get, old, 2, 4}}, {{get, now, 5, 7}}}, true},
		{"new, then old", [4][]deed{{{put, "201", 1, 9}}, {{get, now, 2, 4}}, {{get, old, 5, 7}}}, false},
		{"new and old at a time", [4][]deed{{{put, "201", 1, 9}}, {{get, now, 2, 5}}, {{get, old, 4, 7}}}, true},
		{"two that put the first", [4][]deed{{{put, "201", 1, 9}}, {{put, "201", 2, 8}}}, false},
		{"one that puts the first", [4][]deed{{{put, "200", 1, 9}}, {{put, "201", 2, 8}}}, true},
		{"two that take out one", [4][]deed{{{put, "201", 1, 2}}, {{"del 1", "200", 3, 9}}, {{"del 1", "200", 4, 8}}}, false},
		{"one that takes it out", [4][]deed{{{put, "201", 1, 2}}, {{"del 1", "404", 3, 9}}, {{"del 1", "200", 4, 8}}}, true},
		{"a map that never was", [4][]deed{{{get, slowAnswer("64x4", ""), 1, 3}}}, false},
	} {
		if got := newRows().has(c.deeds); got != c.want {
			t.Errorf("%s: %v, want %v", c.name, got, c.want)
		}
	}
}

// everyOrder runs once for each way to answer choose, which answers a number below n.
func everyOrder(run func(choose func(n int) int)) {
	var chosen, of []int
	for {
		at := 0
		run(func(n int) int {
			if at == len(chosen) {
				chosen, of = append(chosen, 0), append(of, n)
			}
			at++
			return chosen[at-1]
		})
		for at = len(chosen); at > 0 && chosen[at-1] == of[at-1]-1; at-- {
		}
		if at == 0 {
			return
		}
		chosen, of = chosen[:at], of[:at]
		chosen[at-1]++
	}
}

// pickAll picks until all requests are answered. It tells false if it came upon
// one that is blocked: what is done then is done in another order, too.
func (r *record) pickAll(choose func(n int) int) bool {
	r.t.Helper()
	for {
		var able []int
		for session, list := range r.waiting {
			if len(list) > 0 {
				able = append(able, session)
			}
		}
		if len(able) == 0 {
			return true
		}
		if !r.pick(able[choose(len(able))]) {
			return false
		}
	}
}

func TestP7EveryOrderOfFewRequests(t *testing.T) {
	const whole, corner = "put 1 area 0 5 0,0 255,0 255,255 0,255", "put 1 point 0 2 0,0"
	for _, c := range []struct {
		name  string
		ahead []string
		at    [3][]string
	}{
		{"a put and two gets", nil, [3][]string{{whole}, {"get 0 0 0"}, {"get 0 0 0"}}},
		{"a put and gets of two shards", nil, [3][]string{{corner}, {"get 1 0 0"}, {"get 3 0 0"}}},
		{"two puts and a get", nil, [3][]string{{whole}, {corner}, {"get 3 0 0"}}},
		{"two puts and gets", nil, [3][]string{{whole}, {corner}, {"get 3 0 0", "get 3 0 0"}}},
		{"two puts of one session and two gets", nil, [3][]string{{whole, corner}, {"get 3 0 0"}, {"get 3 0 0"}}},
		{"a put and a del", []string{corner}, [3][]string{{whole}, {"del 1"}, {"get 2 0 0"}}},
		{"a del and gets of one session", []string{whole}, [3][]string{{"del 1"}, {"get 2 3 3", "get 2 3 3"}}},
		{"a tile that is kept", []string{whole, "get 1 0 0"}, [3][]string{{corner}, {"get 1 0 0", "get 1 0 0"}, {"get 1 0 0"}}},
	} {
		rows, orders := newRows(), 0
		everyOrder(func(choose func(n int) int) {
			r := startRecord(t, 2)
			r.ask(3, c.ahead...)
			for session, list := range c.at {
				r.send(session, list...)
			}
			if !r.pickAll(choose) {
				return
			}
			orders++
			r.ask(3, "get 0 0 0", "get 1 0 0", "get 2 0 0", "get 3 0 0", "get 2 3 3")
			r.wantRow(rows)
		})
		if orders < 30 {
			t.Errorf("%s: only %d orders came to their end", c.name, orders)
		}
	}
}

// closeRequest asks for few tiles and changes them often, so that old ones would be told.
func closeRequest(r *rand.Rand) string {
	gets := []string{"get 0 0 0", "get 1 0 0", "get 1 1 1", "get 2 0 0", "get 2 1 1", "get 3 0 0", "get 3 1 1", "get 3 7 7"}
	places := []string{"0,0", "40,40", "64,64", "255,255"}
	switch r.Intn(8) {
	case 0:
		return fmt.Sprintf("del %d", 1+r.Intn(2))
	case 1:
		return fmt.Sprintf("put %d area 0 %d 0,0 255,0 255,255 0,255", 1+r.Intn(2), 1+r.Intn(9))
	case 2:
		return fmt.Sprintf("put %d point 0 %d %s", 1+r.Intn(2), 1+r.Intn(9), places[r.Intn(4)])
	case 3:
		return gets[r.Intn(8)] + " " + slowMark("64x0")
	}
	return gets[r.Intn(8)]
}

func TestP7ManyCloseRequestsInAnyOrder(t *testing.T) { manyInAnyOrder(t, closeRequest) }

func TestP7ManyRequestsInAnyOrder(t *testing.T) { manyInAnyOrder(t, someRequest) }

func manyInAnyOrder(t *testing.T, some func(*rand.Rand) string) {
	t.Helper()
	r := rand.New(rand.NewSource(10))
	for round := range 90 {
		rec := startRecord(t, round%(api.MaxRoom+1))
		for range 300 {
			session := r.Intn(api.Sessions)
			if len(rec.waiting[session]) == 0 || r.Intn(8) == 0 && len(rec.waiting[session]) < api.MaxQueue {
				rec.send(session, some(r))
			}
			for range 1 + r.Intn(3) {
				rec.pick(session)
			}
		}
		rec.wantRow(newRows())
	}
}
