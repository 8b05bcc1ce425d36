// Package steps: how requests go on, step by step.
package steps

import (
	"atlas/boxtree"
	"atlas/request"
	"atlas/shards"
)

// Map is what the requests of all sessions work on.
type Map struct {
	Features boxtree.Tree
	Locked   bool
	Shards   shards.Shards
}

// Step is the next one of a request; what the request has noted goes with it.
type Step func(m *Map) Result

// Result is what came of a step: it was blocked and did nothing, or there is a
// next step, or, if there is none, the request is answered.
type Result struct {
	Blocked bool
	Next    Step
	Answer  string
}

// First is the first step of the request.
func First(r request.Request) Step {
	switch r.Verb {
	case request.Get:
		return get{tile: r.Tile, mark: r.Mark}.look
	case request.Put:
		return change{id: r.Feature.Id, put: &r.Feature}.lock
	case request.Del:
		return change{id: r.Id}.lock
	}
	return refuse
}

func refuse(*Map) Result {
	return answered("400")
}

func answered(answer string) Result {
	return Result{Answer: answer}
}

func then(next Step) Result {
	return Result{Next: next}
}

func blocked() Result {
	return Result{Blocked: true}
}
