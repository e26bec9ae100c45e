package plane

import (
	"slices"

	"tender/api"
	"tender/queue"
	"tender/store"
)

// The tests bring a plane by these straight to where a controller and a node
// come to by many steps, or never: they write pods, add keys to the queue and
// lay hopes.

func (p *Plane) Store() *store.Store { return p.store }

func (p *Plane) Queue() *queue.Queue { return p.queue }

func (p *Plane) Lay(h api.Hope) {
	h.Deletions = slices.Clone(h.Deletions)
	p.hopes[h.Uid] = h
}
