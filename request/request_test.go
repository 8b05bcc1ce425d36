package request

import (
	"fmt"
	"math/rand"
	"reflect"
	"strings"
	"testing"

	"atlas/api"
)

var kinds = [4]string{"", "point", "line", "area"}

// write is the one text that a good request has.
func write(r Request) string {
	switch r.Verb {
	case Get:
		text := fmt.Sprintf("get %d %d %d", r.Tile.Zoom, r.Tile.Column, r.Tile.Row)
		if r.Mark != "" {
			text += " " + r.Mark
		}
		return text
	case Put:
		f := r.Feature
		text := fmt.Sprintf("put %d %s %d %d", f.Id, kinds[f.Kind], f.Height, f.Colour)
		for _, p := range f.Places {
			text += fmt.Sprintf(" %d,%d", p.X, p.Y)
		}
		return text
	case Del:
		return fmt.Sprintf("del %d", r.Id)
	}
	return "not good"
}

func someGood(r *rand.Rand) Request {
	switch r.Intn(3) {
	case 0:
		zoom := r.Intn(4)
		mark := []string{"", "0123abcd", "\x00\xff\t\n,-+é"[:8], "--------"}[r.Intn(4)]
		return Request{Verb: Get, Tile: api.Tile{Zoom: zoom, Column: r.Intn(1 << zoom), Row: r.Intn(1 << zoom)}, Mark: mark}
	case 1:
		kind := 1 + r.Intn(3)
		f := api.Feature{Id: 1 + r.Intn(99), Kind: kind, Height: r.Intn(19) - 9, Colour: 1 + r.Intn(9)}
		places := 1
		if kind > 1 {
			places = kind + r.Intn(7-kind)
		}
		for range places {
			f.Places = append(f.Places, api.Place{X: r.Intn(256), Y: r.Intn(256)})
		}
		return Request{Verb: Put, Feature: f}
	}
	return Request{Verb: Del, Id: 1 + r.Intn(99)}
}

func TestGoodRequestsAreRead(t *testing.T) {
	r := rand.New(rand.NewSource(10))
	for range 5000 {
		want := someGood(r)
		if got := Read(write(want)); !reflect.DeepEqual(got, want) {
			t.Fatalf("%q: %+v, want %+v", write(want), got, want)
		}
	}
}

func TestOnlyWhatWouldBeWrittenIsGood(t *testing.T) {
	r := rand.New(rand.NewSource(11))
	const bytes = " 0123456789-+,.x\t\n\x00é_agptu"
	for range 50000 {
		text := write(someGood(r))
		for range 1 + r.Intn(2) {
			i := r.Intn(len(text) + 1)
			rest := text[min(i+r.Intn(2), len(text)):]
			if r.Intn(3) > 0 {
				rest = string(bytes[r.Intn(len(bytes))]) + rest
			}
			text = text[:i] + rest
		}
		if got := Read(text); got.Verb != Bad && write(got) != text {
			t.Fatalf("%q is good: %+v", text, got)
		}
	}
}

func TestRequestsThatAreNotGood(t *testing.T) {
	good := "put 1 line 0 1" + strings.Repeat(" 1,1", 6)
	if Read(good).Verb != Put {
		t.Errorf("%q is not good", good)
	}
	for _, text := range []string{
		"", " ", "  ", "x", "get", "put", "del", "GET 0 0 0", "gets 0 0 0", "ge 0 0 0", "get\t0\t0\t0",
		"get 0", "get 0 0", "get 0 0 0 ", " get 0 0 0", "get  0 0 0", "get 0 0  0", "get 0 0 0\n",
		"get 4 0 0", "get -1 0 0", "get 0 1 0", "get 0 0 1", "get 3 8 0", "get 3 0 8", "get 1 -1 0", "get 1 0 -1",
		"get 00 0 0", "get 0 00 0", "get 0 0 00", "get 01 0 0", "get +1 0 0", "get -0 0 0", "get 0x1 0 0", "get 1_0 0 0", "get 1.0 0 0", "get 1e0 0 0", "get ١ 0 0",
		"get 0 0 0 1234567", "get 0 0 0 123456789", "get 0 0 0 1234 678", "get 0 0 0  1234567", "get 0 0 0 12345678 ", "get 0 0 0 12345678 12345678", "get 0 0 0 éééééééé",
		"get 18446744073709551616 0 0", "get 0 4294967296 0", "get 99999999999999999999999999999999999 0 0",
		"del 0", "del -1", "del 100", "del 01", "del 1 ", "del 1 1", "del  1", "del x", "del +1", "del 4294967297", "del 18446744073709551617",
		"put 1", "put 1 point", "put 1 point 0", "put 1 point 0 1", "put 1 point 0 1 ", "put 1 point 0 1 1", "put 1 point 0 1 1,", "put 1 point 0 1 ,1", "put 1 point 0 1 ,",
		"put 1 point 0 1 1,1,1", "put 1 point 0 1 1,1,", "put 1 point 0 1 1, 1", "put 1 point 0 1 1 1", "put 1 point 0 1 1;1", "put 1 point 0 1 1,1 ", "put 1 point 0 1 01,1", "put 1 point 0 1 1,01", "put 1 point 0 1 -0,1", "put 1 point 0 1 +1,1",
		"put 1 point 0 1 256,0", "put 1 point 0 1 0,256", "put 1 point 0 1 -1,0", "put 1 point 0 1 0,-1",
		"put 0 point 0 1 1,1", "put 100 point 0 1 1,1", "put -1 point 0 1 1,1", "put 01 point 0 1 1,1",
		"put 1 Point 0 1 1,1", "put 1 points 0 1 1,1", "put 1 1 0 1 1,1", "put 1  0 1 1,1",
		"put 1 point 10 1 1,1", "put 1 point -10 1 1,1", "put 1 point -0 1 1,1", "put 1 point +1 1 1,1", "put 1 point 09 1 1,1", "put 1 point -09 1 1,1", "put 1 point --1 1 1,1",
		"put 1 point 0 0 1,1", "put 1 point 0 10 1,1", "put 1 point 0 -1 1,1", "put 1 point 0 01 1,1",
		"put 1 point 0 1 1,1 2,2", "put 1 line 0 1 1,1", "put 1 area 0 1 1,1 2,2",
		"put 1 line 0 1" + strings.Repeat(" 1,1", 7), "put 1 area 0 1" + strings.Repeat(" 1,1", 7),
		"put 1 line 0 1 1,1 2,2 x", "put 1 line 0 1 1,1  2,2", "put 1 line 0 1 1,1,2,2",
		strings.Repeat(" ", 200), strings.Repeat("get ", 50), strings.Repeat("9", 200), "del " + strings.Repeat("9", 196),
	} {
		if got := Read(text); !reflect.DeepEqual(got, Request{}) {
			t.Errorf("%q: %+v", text, got)
		}
	}
}
