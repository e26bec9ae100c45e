package plane

import (
	"slices"

	"tender/api"
	"tender/queue"
	"tender/store"
)

// The tests do by these what a controller and a node do: they write pods, add
// keys to the queue and lay hopes.

func (p *Plane) Store() *store.Store { return p.store }

func (p *Plane) Queue() *queue.Queue { return p.queue }

func (p *Plane) Lay(h api.Hope) {
	h.Deletions = slices.Clone(h.Deletions)
	p.hopes[h.Uid] = h
}

func (p *Plane) CountTimeout() { p.timeouts++ }
