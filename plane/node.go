package plane

import (
	"slices"

	"tender/api"
)

// node does what is next to do for a pod (P15).
func (p *Plane) node() api.Answer {
	pods, _ := p.store.List(api.Pod) // by their Uids
	if i := slices.IndexFunc(pods, isGone); i >= 0 {
		return nodeDid(p.store.Remove(api.Pod, pods[i].Name, 0))
	}
	if i := slices.IndexFunc(pods, isPending); i >= 0 {
		return nodeDid(p.store.Update(api.Object{Kind: api.Pod, Name: pods[i].Name, Phase: api.Running}))
	}
	return api.Answer{}
}

// nodeDid is the answer of the node to its write: it tells no error.
func nodeDid(_ api.Object, err api.Errno) api.Answer {
	if err != api.OK {
		return api.Answer{}
	}
	return api.Answer{Did: 1}
}
