package steps

import (
	"atlas/api"
	"atlas/boxtree"
	"atlas/paint"
)

// get is a get, and what it has noted so far.
type get struct {
	tile     api.Tile
	mark     string
	age      int
	features boxtree.Tree
}

func (g get) look(m *Map) Result {
	if body, ok := m.Shards.Use(g.tile); ok {
		return g.tell(body)
	}
	g.age = m.Shards.Age(g.tile)
	return then(g.note)
}

func (g get) note(m *Map) Result {
	if m.Locked {
		return blocked()
	}
	g.features = m.Features
	return then(g.draw)
}

func (g get) draw(m *Map) Result {
	body := paint.Body(g.features, g.tile)
	m.Shards.Keep(g.tile, body, g.age)
	return g.tell(body)
}

func (g get) tell(body string) Result {
	mark := paint.Mark(body)
	if g.mark == mark {
		return answered("304 " + mark)
	}
	return answered("200 " + mark + " " + body)
}
