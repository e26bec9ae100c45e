package plane

import "tender/api"

// told is the answer to a write.
func told(o api.Object, err api.Errno) api.Answer {
	if err != api.OK {
		return api.Answer{Err: err}
	}
	return api.Answer{Objects: []api.Object{o}}
}

// scale leaves it to Update to say that there is no such set, because other
// errors are named ahead of that one.
func (p *Plane) scale(op api.Op) (api.Object, api.Errno) {
	was, _ := p.store.Get(api.Set, op.Name)
	return p.store.Update(api.Object{Kind: api.Set, Name: op.Name, Version: op.Version, Replicas: op.N, Status: was.Status})
}

func (p *Plane) read(n int) api.Answer {
	if n != int(api.Set) && n != int(api.Pod) {
		return api.Answer{Err: api.ErrInvalid}
	}
	list, _ := p.store.List(uint8(n))
	return api.Answer{Objects: list}
}
