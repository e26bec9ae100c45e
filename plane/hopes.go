package plane

import (
	"cmp"
	"slices"

	"tender/api"
)

// hopes lie by the Uids of their sets; those that are met do not lie there.
type hopes map[int]api.Hope

func (h hopes) areLaid(uid int) bool {
	_, ok := h[uid]
	return ok
}

func (h hopes) forget(uid int) { delete(h, uid) }

// keep lays hopes; those that are met are forgotten.
func (h hopes) keep(hope api.Hope) {
	if hope.Creations == 0 && len(hope.Deletions) == 0 {
		h.forget(hope.Uid)
	} else {
		h[hope.Uid] = hope
	}
}

// dropCreations: so many are hoped for no more, as they are seen or will not come.
func (h hopes) dropCreations(uid, n int) {
	if hope, ok := h[uid]; ok {
		hope.Creations = max(hope.Creations-n, 0)
		h.keep(hope)
	}
}

// dropDeletion: that of the pod is hoped for no more, as it is seen or will not come.
func (h hopes) dropDeletion(uid, pod int) {
	if hope, ok := h[uid]; ok {
		hope.Deletions = slices.DeleteFunc(hope.Deletions, func(u int) bool { return u == pod })
		h.keep(hope)
	}
}

func (h hopes) told() []api.Hope {
	var list []api.Hope
	for _, hope := range h {
		hope.Deletions = slices.Clone(hope.Deletions)
		list = append(list, hope)
	}
	slices.SortFunc(list, func(a, b api.Hope) int { return cmp.Compare(a.Uid, b.Uid) })
	return list
}
