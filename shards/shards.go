// Package shards: tiles that were drawn, and are kept as long as they are right.
package shards

import (
	"slices"

	"atlas/api"
	"atlas/paint"
	"atlas/shape"
)

// Shards are all shards of an atlas.
type Shards struct {
	room int
	list [api.Shards]shard
}

// A shard has its tiles in the order in which they were used, the last one at the end.
type shard struct {
	tiles []kept
	age   int
}

type kept struct {
	tile api.Tile
	body string
}

// New makes shards that keep nothing yet, each with this room.
func New(room int) Shards {
	return Shards{room: room}
}

// Use is the body of a tile that is kept, which is used by this, and whether it is kept.
func (s *Shards) Use(t api.Tile) (string, bool) {
	of := s.of(t)
	body, ok := of.take(t)
	if ok {
		of.add(t, body)
	}
	return body, ok
}

// Age is the age of the tile's shard.
func (s *Shards) Age(t api.Tile) int {
	return s.of(t).age
}

// Keep keeps the tile, as the one used last, unless its shard is no longer of the age.
func (s *Shards) Keep(t api.Tile, body string, age int) {
	of := s.of(t)
	if of.age != age {
		return
	}
	of.take(t)
	of.add(t, body)
	if len(of.tiles) > s.room {
		of.tiles = slices.Delete(of.tiles, 0, 1)
	}
}

// Forget keeps the tiles of the zoom that meet a box no longer. The shards that
// they are of grow older even if none was kept, for one may just be drawn.
func (s *Shards) Forget(zoom int, boxes []shape.Box) {
	var older [api.Shards]bool
	for t := range paint.Tiles(zoom) {
		if slices.ContainsFunc(boxes, paint.Square(t).Meets) {
			s.of(t).take(t)
			older[number(t)] = true
		}
	}
	for n := range s.list {
		if older[n] {
			s.list[n].age++
		}
	}
}

// Tiles are the tiles that the shard keeps, the one that was used last at the end.
func (s *Shards) Tiles(shard int) []api.Tile {
	var tiles []api.Tile
	for _, k := range s.list[shard].tiles {
		tiles = append(tiles, k.tile)
	}
	return tiles
}

func (s *Shards) of(t api.Tile) *shard {
	return &s.list[number(t)]
}

func number(t api.Tile) int {
	return (t.Zoom + t.Column + t.Row) % api.Shards
}

// take takes the tile out, if it is there.
func (s *shard) take(t api.Tile) (string, bool) {
	i := slices.IndexFunc(s.tiles, func(k kept) bool { return k.tile == t })
	if i < 0 {
		return "", false
	}
	body := s.tiles[i].body
	s.tiles = slices.Delete(s.tiles, i, i+1)
	return body, true
}

func (s *shard) add(t api.Tile, body string) {
	s.tiles = append(s.tiles, kept{t, body})
}
