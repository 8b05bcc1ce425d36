// Package atlas: tiles of a map, asked for and changed by several at a time: see DOC.md.
package atlas

import (
	"atlas/api"
	"atlas/boxtree"
	"atlas/paint"
	"atlas/shape"
	"atlas/shards"
	"atlas/steps"
)

// Atlas keeps features and tiles.
type Atlas struct {
	ground   steps.Map
	sessions [api.Sessions]session
}

// New makes an atlas (P4).
func New(room int) (*Atlas, api.Errno) {
	if room < 0 || room > api.MaxRoom {
		return nil, api.ErrArg
	}
	a := &Atlas{ground: steps.Map{Shards: shards.New(room)}}
	for i := range a.sessions {
		a.sessions[i] = newSession()
	}
	return a, api.OK
}

// Send puts a request into a queue (P4).
func (a *Atlas) Send(session int, request string) api.Errno {
	if !isSession(session) {
		return api.ErrSession
	}
	s := &a.sessions[session]
	if s.waiting() >= api.MaxQueue {
		return api.ErrFull
	}
	if len(request) > api.MaxRequest {
		return api.ErrArg
	}
	s.queue <- request
	return api.OK
}

// Pick does a step (P5).
func (a *Atlas) Pick(session int) (bool, api.Errno) {
	if !isSession(session) {
		return false, api.ErrSession
	}
	return a.sessions[session].pick(&a.ground), api.OK
}

// Answers tells a session's answers (P5).
func (a *Atlas) Answers(session int) ([]string, api.Errno) {
	if !isSession(session) {
		return nil, api.ErrSession
	}
	return a.sessions[session].tell(), api.OK
}

// Kept tells what a shard keeps (P6).
func (a *Atlas) Kept(shard int) ([]api.Tile, api.Errno) {
	if shard < 0 || shard >= api.Shards {
		return nil, api.ErrArg
	}
	return a.ground.Shards.Tiles(shard), api.OK
}

// Look tells how the atlas is (P6).
func (a *Atlas) Look() api.View {
	view := api.View{Features: a.ground.Features.Count(), Locked: a.ground.Locked}
	for i := range a.sessions {
		view.Waiting += a.sessions[i].waiting()
	}
	return view
}

// Draw draws a tile (P3).
func Draw(features []api.Feature, t api.Tile) (string, string, api.Errno) {
	if !paint.IsTile(t) || !shape.AreFeatures(features) {
		return "", "", api.ErrArg
	}
	var tree boxtree.Tree
	for _, f := range features {
		tree = tree.With(f)
	}
	body := paint.Body(tree, t)
	return paint.Mark(body), body, api.OK
}
