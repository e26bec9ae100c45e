package plane

import "tender/api"

func (p *Plane) deliver(n int) api.Answer {
	if n < 0 {
		return api.Answer{Err: api.ErrInvalid}
	}
	events, version := p.news(n)
	for e := range sent(events) {
		p.heed(p.cache.takeIn(e))
	}
	p.cache.version, p.cache.listed = version, true
	return api.Answer{Did: len(events)}
}

// news tells what the cache is to take in, and the version that it has then.
func (p *Plane) news(n int) ([]api.Event, int) {
	if p.cache.listed {
		events, err := p.store.Since(p.cache.version, n)
		if err == api.OK {
			// Every version has left just one event.
			return events, p.cache.version + len(events)
		}
	}
	are, version := p.Stored()
	return p.cache.missed(are), version
}

// sent gives a channel over which the events come. Whoever ranges over it to
// its end leaves nobody behind who sends.
func sent(events []api.Event) <-chan api.Event {
	news := make(chan api.Event)
	go func() {
		for _, e := range events {
			news <- e
		}
		close(news)
	}()
	return news
}

// heed does what a notice does (P12).
func (p *Plane) heed(n notice) {
	if n.event.Object.Kind == api.Set {
		p.heedSet(n)
	} else {
		p.heedPod(n)
	}
}

func (p *Plane) heedSet(n notice) {
	set := n.event.Object
	p.queue.Add(set.Name)
	if n.event.Sort == api.Deleted {
		p.hopes.forget(set.Uid)
	}
}

func (p *Plane) heedPod(n notice) {
	pod := n.event.Object
	if n.event.Sort == api.Added {
		p.hopes.dropCreations(pod.Owner, 1)
	}
	if n.event.Sort == api.Deleted || pod.Gone && !n.was.Gone {
		p.hopes.dropDeletion(pod.Owner, pod.Uid)
	}
	p.callSet(pod.Owner)
}

// callSet lets the set with a Uid be looked at, if it is in the cache.
func (p *Plane) callSet(uid int) {
	if name, ok := p.cache.setOf(uid); ok {
		p.queue.Add(name)
	}
}
