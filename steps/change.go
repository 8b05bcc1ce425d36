package steps

import (
	"atlas/api"
	"atlas/boxtree"
	"atlas/shape"
)

// change is a put or a del, and the zoom whose tiles are to be forgotten next.
type change struct {
	id   int
	put  *api.Feature // nil of a del
	zoom int
}

func (c change) lock(m *Map) Result {
	if m.Locked {
		return blocked()
	}
	m.Locked = true
	return then(c.forget)
}

func (c change) forget(m *Map) Result {
	m.Shards.Forget(c.zoom, c.boxes(m.Features))
	if c.zoom == api.MaxZoom {
		return then(c.finish)
	}
	c.zoom++
	return then(c.forget)
}

// boxes are where the map will look otherwise: at the feature that comes, and at the one that goes.
func (c change) boxes(features boxtree.Tree) []shape.Box {
	var boxes []shape.Box
	if c.put != nil {
		boxes = append(boxes, shape.BoxOf(c.put.Places...))
	}
	if old, ok := features.Find(c.id); ok {
		boxes = append(boxes, shape.BoxOf(old.Places...))
	}
	return boxes
}

func (c change) finish(m *Map) Result {
	_, had := m.Features.Find(c.id)
	if had {
		m.Features = m.Features.Without(c.id)
	}
	if c.put != nil {
		m.Features = m.Features.With(*c.put)
	}
	m.Locked = false
	return answered(c.answer(had))
}

func (c change) answer(had bool) string {
	switch {
	case had:
		return "200"
	case c.put != nil:
		return "201"
	}
	return "404"
}
