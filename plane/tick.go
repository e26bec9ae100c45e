package plane

import "tender/api"

// tick lets the clock go on, and hopes run out (P15).
func (p *Plane) tick() api.Answer {
	p.clock++
	p.queue.Tick()
	did := 0
	for _, hope := range p.hopes.told() {
		if p.clock-hope.At >= p.timeout {
			p.hopes.forget(hope.Uid)
			p.callSet(hope.Uid)
			did++
		}
	}
	p.timeouts += did
	return api.Answer{Did: did}
}
