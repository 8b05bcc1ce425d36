// Package request: what the text of a request asks for.
package request

import (
	"strconv"
	"strings"

	"atlas/api"
	"atlas/paint"
	"atlas/shape"
)

// Verb is what a request wants to be done.
type Verb int

// The verbs; a request that is not good has Bad.
const (
	Bad Verb = iota
	Get
	Put
	Del
)

// Request is a request that was read. What its verb has no use for is nothing.
type Request struct {
	Verb    Verb
	Tile    api.Tile    // the one to get
	Mark    string      // of a get; empty, if it has none
	Feature api.Feature // the one to put
	Id      int         // the number to delete
}

// Read reads the text of a request.
func Read(text string) Request {
	w := words{left: strings.Split(text, " ")}
	r := w.request()
	if w.wrong || len(w.left) > 0 {
		return Request{}
	}
	return r
}

// words are read one by one. What is wrong with one is noted and asked once, at
// the end; until then there is something in place of what could not be read.
type words struct {
	left  []string
	wrong bool
}

func (w *words) check(good bool) {
	w.wrong = w.wrong || !good
}

func (w *words) next() string {
	if len(w.left) == 0 {
		w.wrong = true
		return ""
	}
	word := w.left[0]
	w.left = w.left[1:]
	return word
}

func (w *words) request() Request {
	switch w.next() {
	case "get":
		return Request{Verb: Get, Tile: w.tile(), Mark: w.mark()}
	case "put":
		return Request{Verb: Put, Feature: w.feature()}
	case "del":
		return Request{Verb: Del, Id: w.id()}
	}
	w.wrong = true
	return Request{}
}

func (w *words) tile() api.Tile {
	t := api.Tile{Zoom: w.number(), Column: w.number(), Row: w.number()}
	w.check(paint.IsTile(t))
	return t
}

func (w *words) mark() string {
	if len(w.left) == 0 {
		return ""
	}
	mark := w.next()
	w.check(len(mark) == paint.MarkDigits)
	return mark
}

func (w *words) feature() api.Feature {
	f := api.Feature{Id: w.number(), Kind: w.kind(), Height: w.number(), Colour: w.number()}
	for len(w.left) > 0 {
		f.Places = append(f.Places, w.place())
	}
	w.check(shape.IsFeature(f))
	return f
}

func (w *words) kind() int {
	switch w.next() {
	case "point":
		return api.Point
	case "line":
		return api.Line
	case "area":
		return api.Area
	}
	w.wrong = true
	return 0
}

func (w *words) place() api.Place {
	x, y, _ := strings.Cut(w.next(), ",")
	return api.Place{X: w.asNumber(x), Y: w.asNumber(y)}
}

func (w *words) id() int {
	id := w.number()
	w.check(shape.IsId(id))
	return id
}

func (w *words) number() int {
	return w.asNumber(w.next())
}

// A number may only be written as it would be told: so noughts ahead, a plus,
// and a minus ahead of 0 are wrong.
func (w *words) asNumber(word string) int {
	n, err := strconv.Atoi(word)
	w.check(err == nil && strconv.Itoa(n) == word)
	return n
}
