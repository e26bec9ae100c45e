package plane

import (
	"cmp"
	"slices"

	"tender/api"
)

// hopes lie by the Uids of their sets; those that are met do not lie there.
type hopes map[int]api.Hope

func (h hopes) forget(uid int) { delete(h, uid) }

func (h hopes) seeCreation(uid int) {
	hope := h[uid]
	hope.Creations = max(hope.Creations-1, 0)
	h.keep(uid, hope)
}

func (h hopes) seeDeletion(uid, pod int) {
	hope := h[uid]
	hope.Deletions = slices.DeleteFunc(hope.Deletions, func(u int) bool { return u == pod })
	h.keep(uid, hope)
}

// keep has nothing to keep where there were no hopes: none are as good as met.
func (h hopes) keep(uid int, hope api.Hope) {
	if hope.Creations == 0 && len(hope.Deletions) == 0 {
		h.forget(uid)
	} else {
		h[uid] = hope
	}
}

func (h hopes) told() []api.Hope {
	var list []api.Hope
	for _, hope := range h {
		hope.Deletions = slices.Clone(hope.Deletions)
		list = append(list, hope)
	}
	slices.SortFunc(list, func(a, b api.Hope) int { return cmp.Compare(a.Uid, b.Uid) })
	return list
}
