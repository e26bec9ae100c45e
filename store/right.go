package store

import "tender/api"

// maxStatus: a set cannot have more live pods than a store has objects.
const maxStatus = api.MaxObjects

func rightToCreate(o api.Object) bool {
	switch o.Kind {
	case api.Set:
		return rightName(o.Name) && rightCounts(o) && o.Owner == 0 && o.Phase == 0
	case api.Pod:
		return o.Name == "" && o.Owner >= 1 && rightPhase(o) && o.Replicas == 0 && o.Status == 0
	}
	return false
}

// rightToUpdate leaves alone what an update does not write.
func rightToUpdate(o api.Object) bool {
	switch o.Kind {
	case api.Set:
		return rightCounts(o)
	case api.Pod:
		return rightPhase(o)
	}
	return false
}

func rightName(name string) bool {
	if len(name) < 1 || len(name) > api.MaxName {
		return false
	}
	for i := range len(name) {
		if name[i] < 'a' || name[i] > 'z' {
			return false
		}
	}
	return true
}

func rightCounts(o api.Object) bool {
	return o.Replicas >= 0 && o.Replicas <= api.MaxReplicas && o.Status >= 0 && o.Status <= maxStatus
}

func rightPhase(o api.Object) bool { return o.Phase <= api.Failed }
