package plane

import (
	"cmp"
	"slices"

	"tender/api"
)

func isGone(pod api.Object) bool { return pod.Gone }

func isPending(pod api.Object) bool { return pod.Phase == api.Pending }

func isLive(pod api.Object) bool { return !pod.Gone && pod.Phase != api.Failed }

// byLoss has those first whose end is the least loss: they do not run yet, or
// were created last.
func byLoss(a, b api.Object) int {
	return cmp.Or(cmp.Compare(a.Phase, b.Phase), cmp.Compare(b.Uid, a.Uid))
}

// uidsOf tells the Uids of pods, rising.
func uidsOf(pods []api.Object) []int {
	var uids []int
	for _, pod := range pods {
		uids = append(uids, pod.Uid)
	}
	slices.Sort(uids)
	return uids
}
