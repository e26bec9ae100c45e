package objects_test

import (
	"math/rand/v2"
	"slices"
	"testing"

	"tender/api"
	"tender/objects"
)

// Words, Lists: sets first, by their names, byte by byte; then pods, by their Uids.
func TestInOrder(t *testing.T) {
	want := []api.Object{
		{Name: "a", Uid: 9}, {Name: "aa", Uid: 4}, {Name: "ab", Uid: 1}, {Name: "b", Uid: 7}, {Name: "p", Uid: 2}, {Name: "z", Uid: 3},
		{Kind: api.Pod, Name: "p5", Uid: 5}, {Kind: api.Pod, Name: "p6", Uid: 6}, {Kind: api.Pod, Name: "p10", Uid: 10}, {Kind: api.Pod, Name: "p11", Uid: 11}, {Kind: api.Pod, Name: "p100", Uid: 100},
	}
	r := rand.New(rand.NewPCG(1, 1))
	for range 50 {
		list := slices.Clone(want)
		r.Shuffle(len(list), func(i, k int) { list[i], list[k] = list[k], list[i] })
		slices.SortFunc(list, objects.InOrder)
		if !slices.Equal(list, want) {
			t.Fatalf("in order: %+v", list)
		}
	}
}

// P11: a set that was made again has the place that it had.
func TestInOrderOfOneName(t *testing.T) {
	a, b := api.Object{Name: "a", Uid: 1, Version: 1}, api.Object{Name: "a", Uid: 2, Version: 5}
	if objects.InOrder(a, b) != 0 || objects.InOrder(b, a) != 0 {
		t.Errorf("two sets of one name: %d, %d", objects.InOrder(a, b), objects.InOrder(b, a))
	}
}

// Words, An object: by its kind and name, and by nothing else of it.
func TestKeyOf(t *testing.T) {
	full := api.Object{Kind: api.Pod, Name: "p3", Uid: 3, Version: 9, Replicas: 1, Status: 1, Owner: 1, Phase: api.Running, Gone: true}
	if k := objects.KeyOf(full); k != (objects.Key{Kind: api.Pod, Name: "p3"}) {
		t.Errorf("KeyOf = %+v", k)
	}
	if objects.KeyOf(api.Object{Name: "p3"}) == objects.KeyOf(full) {
		t.Error("a set and a pod are called the same")
	}
}
