package plane

import (
	"slices"

	"tender/api"
	"tender/objects"
)

// sync looks at the set that has waited longest (P14).
func (p *Plane) sync() api.Answer {
	if !p.cache.listed {
		return api.Answer{}
	}
	name, ok := p.queue.Take()
	if !ok {
		return api.Answer{}
	}
	if p.tend(name) {
		p.queue.Forget(name)
	} else {
		p.queue.Limited(name)
	}
	p.queue.Done(name)
	return api.Answer{Did: 1}
}

// tend does for a set what there is to do, and tells whether it is well: if
// not, it is to be looked at again.
func (p *Plane) tend(name string) bool {
	set, ok := p.cache.objects[objects.Key{Kind: api.Set, Name: name}]
	if !ok {
		return true
	}
	live := p.cache.liveOf(set.Uid)
	balanced := p.balance(set, live)
	return p.report(set, len(live)) && balanced
}

// balance leaves a set alone as long as something that was done for it is not
// seen yet: who does not know how many there are would make too many.
func (p *Plane) balance(set api.Object, live []api.Object) bool {
	if p.hopes.areLaid(set.Uid) {
		return true
	}
	d := set.Replicas - len(live)
	if d > 0 {
		return p.grow(set.Uid, min(d, p.burst))
	}
	if d < 0 {
		slices.SortFunc(live, byLoss)
		return p.shrink(set.Uid, live[:min(-d, p.burst)])
	}
	return true
}

func (p *Plane) grow(uid, n int) bool {
	p.hopes.keep(api.Hope{Uid: uid, Creations: n, At: p.clock})
	for done := range n {
		if _, err := p.store.Create(api.Object{Kind: api.Pod, Owner: uid}); err != api.OK {
			p.hopes.dropCreations(uid, n-done)
			return false
		}
	}
	return true
}

func (p *Plane) shrink(uid int, pods []api.Object) bool {
	p.hopes.keep(api.Hope{Uid: uid, Deletions: uidsOf(pods), At: p.clock})
	well := true
	for _, pod := range pods {
		_, err := p.store.Mark(pod.Name)
		if err != api.OK {
			p.hopes.dropDeletion(uid, pod.Uid)
		}
		// One that is missing needs no second look: it is away, as it shall be.
		well = well && (err == api.OK || err == api.ErrMissing)
	}
	return well
}

// report hands on the Uid and the Version of the cache, so that it is refused
// where a client has written something newer.
func (p *Plane) report(set api.Object, live int) bool {
	if set.Status == live {
		return true
	}
	set.Status = live
	_, err := p.store.Update(set)
	return err == api.OK
}
