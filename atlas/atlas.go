// Package atlas: tiles of a map, asked for and changed by several at a time: see DOC.md.
package atlas

import (
	"atlas/api"
	"atlas/boxtree"
	"atlas/paint"
	"atlas/shape"
)

// Atlas keeps features and tiles.
type Atlas struct{}

// New makes an atlas (P4).
func New(room int) (*Atlas, api.Errno) { return nil, api.OK }

// Send puts a request into a queue (P4).
func (a *Atlas) Send(session int, request string) api.Errno { return api.OK }

// Pick does a step (P5).
func (a *Atlas) Pick(session int) (bool, api.Errno) { return false, api.OK }

// Answers tells a session's answers (P5).
func (a *Atlas) Answers(session int) ([]string, api.Errno) { return nil, api.OK }

// Kept tells what a shard keeps (P6).
func (a *Atlas) Kept(shard int) ([]api.Tile, api.Errno) { return nil, api.OK }

// Look tells how the atlas is (P6).
func (a *Atlas) Look() api.View { return api.View{} }

// Draw draws a tile (P3).
func Draw(features []api.Feature, t api.Tile) (string, string, api.Errno) {
	if !paint.IsTile(t) || !shape.AreFeatures(features) {
		return "", "", api.ErrArg
	}
	var tree boxtree.Tree
	for _, f := range features {
		tree = tree.With(f)
	}
	body := paint.Body(tree, t)
	return paint.Mark(body), body, api.OK
}
