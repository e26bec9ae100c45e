package plane_test

import (
	"testing"

	"tender/api"
)

func due(key string, at int) api.Due { return api.Due{Key: key, At: at} }

// P14: pods are created up to the first that is refused; hopes lie for those that were created.
func TestSyncWithoutRoom(t *testing.T) {
	for room := range 4 {
		p := madeOf(t, api.Config{Limit: 2 + room, Burst: 4, Timeout: 40})
		client(t, p, makeSet("a", 8), makeSet("b", 0))
		ticks(t, p, 0)
		deliver(t, p, 0, 2)
		syncs(t, p, 1)
		want := []string{
			"a#1:8/0@1 b#2:0/0@2",
			"a#1:8/0@1 b#2:0/0@2 p3<1.0@3",
			"a#1:8/0@1 b#2:0/0@2 p3<1.0@3 p4<1.0@4",
			"a#1:8/0@1 b#2:0/0@2 p3<1.0@3 p4<1.0@4 p5<1.0@5",
		}[room]
		stored(t, p, want, 2+room)
		if room > 0 {
			expects(t, p, hopeAt(1, 1, room))
		} else {
			expects(t, p)
		}
		isDue(t, p, []string{"b"}, due("a", 2))
	}
}

// P14: a key that is refused again and again waits the longer, until nothing is refused.
func TestSyncLimited(t *testing.T) {
	p := made(t, 1)
	client(t, p, makeSet("a", 1))
	deliver(t, p, 0, 1)
	clock := 0
	for _, wait := range []int{1, 2, 4, 8, 8, 8} {
		syncs(t, p, 1, 0)
		isDue(t, p, nil, due("a", clock+wait))
		for range wait {
			syncs(t, p, 0)
			ticks(t, p, 0)
		}
		clock += wait
		waits(t, p, "a")
	}
	client(t, p, scale("a", 0))
	deliver(t, p, 1, 1)
	syncs(t, p, 1)
	waits(t, p)
	client(t, p, scale("a", 1))
	deliver(t, p, 1, 1)
	syncs(t, p, 1)
	isDue(t, p, nil, due("a", clock+1))
	stored(t, p, "a#1:1/0@3", 3)
}

// P14: a key that was called meanwhile is looked at at once, and stays due.
func TestSyncCalledWhileDue(t *testing.T) {
	p := made(t, 1)
	client(t, p, makeSet("a", 1))
	deliver(t, p, 0, 1)
	syncs(t, p, 1)
	client(t, p, scale("a", 2))
	deliver(t, p, 1, 1)
	isDue(t, p, []string{"a"}, due("a", 1))
	syncs(t, p, 1)
	isDue(t, p, nil, due("a", 1))
	ticks(t, p, 0)
	syncs(t, p, 1)
	isDue(t, p, nil, due("a", 5))
}

// P14: where creations are refused, the Status is written all the same; where it is refused, too, that is one failure.
func TestSyncWithoutRoomWritesTheStatus(t *testing.T) {
	p := made(t, 2)
	client(t, p, makeSet("a", 8))
	pods(t, p, 1)
	deliver(t, p, 0, 2)
	syncs(t, p, 1)
	stored(t, p, "a#1:8/1@3 p2<1.0@2", 3)
	isDue(t, p, nil, due("a", 1))
	ticks(t, p, 0)
	// The cache still says that the Status is 0, at version 1.
	syncs(t, p, 1)
	stored(t, p, "a#1:8/1@3 p2<1.0@2", 3)
	isDue(t, p, nil, due("a", 3))
}

// P14: pods that the store has no more cannot be marked; their hopes are taken back, all others are marked, and that is no failure.
func TestSyncMarksTheMissing(t *testing.T) {
	for _, c := range []struct {
		missing []string
		marked  string
		hopes   []api.Hope
	}{
		{[]string{"p8"}, "p7<1.0!@17 p6<1.0!@18 p4<1.0!@19", []api.Hope{hopeAt(0, 1, 0, 4, 6, 7)}},
		{[]string{"p6"}, "p8<1.0!@17 p7<1.0!@18 p4<1.0!@19", []api.Hope{hopeAt(0, 1, 0, 4, 7, 8)}},
		{[]string{"p4"}, "p8<1.0!@17 p7<1.0!@18 p6<1.0!@19", []api.Hope{hopeAt(0, 1, 0, 6, 7, 8)}},
		{[]string{"p8", "p4", "p7"}, "p6<1.0!@19", []api.Hope{hopeAt(0, 1, 0, 6)}},
		{[]string{"p6", "p8", "p4", "p7"}, "", nil},
	} {
		p := shrinking(t, 4, 0)
		for _, name := range c.missing {
			removes(t, p, name)
		}
		failedTwice(p, "a")
		syncs(t, p, 1)
		events, _ := p.Store().Since(15+len(c.missing), 99)
		var list []api.Object
		for _, e := range events {
			list = append(list, e.Object)
		}
		if got := showAll(list); got != c.marked {
			t.Errorf("without %s: %s, want %s", c.missing, got, c.marked)
		}
		expects(t, p, c.hopes...)
		hasNotFailed(t, p, "a")
	}
}

// P14: one that a client has marked already is Gone, as it shall be, and its end is still to be seen.
func TestSyncMarksTheGone(t *testing.T) {
	p := shrinking(t, 2, 0)
	client(t, p, dropPod("p8"))
	syncs(t, p, 1)
	if got, want := marked(t, p), "p8<1.0!@16 p7<1.0!@17"; got != want {
		t.Errorf("marked: %s, want %s", got, want)
	}
	expects(t, p, hopeAt(0, 1, 0, 7, 8))
	deliver(t, p, 1, 1)
	expects(t, p, hopeAt(0, 1, 0, 7))
	deliver(t, p, 1, 1)
	expects(t, p)
	waits(t, p, "a")
}

// P14: where no versions are left, markings are refused, their hopes are taken back, and the key is to be looked at again.
func TestSyncMarksExhausted(t *testing.T) {
	for _, c := range []struct {
		left  int
		hopes []api.Hope
	}{
		{0, nil},
		{1, []api.Hope{hopeAt(1, 1, 0, 8)}},
		{3, []api.Hope{hopeAt(1, 1, 0, 6, 7, 8)}},
	} {
		p := shrinking(t, 4, 0)
		client(t, p, makeSet("z", 0))
		raise(t, p, "z", 600-c.left)
		deliver(t, p, 0, 1)
		empties(p)
		p.Queue().Add("a")
		ticks(t, p, 0)
		syncs(t, p, 1)
		expects(t, p, c.hopes...)
		isDue(t, p, nil, due("a", 2))
		if _, version := p.Stored(); version != 600 {
			t.Errorf("the version is %d", version)
		}
	}
}

// P14: where just enough versions are left, nothing is refused.
func TestSyncMarksTheLast(t *testing.T) {
	p := shrinking(t, 4, 0)
	client(t, p, makeSet("z", 0))
	raise(t, p, "z", 596)
	deliver(t, p, 0, 1)
	empties(p)
	failedTwice(p, "a")
	syncs(t, p, 1)
	expects(t, p, hopeAt(0, 1, 0, 4, 6, 7, 8))
	hasNotFailed(t, p, "a")
}

// P14: the same of creations.
func TestSyncCreatesExhausted(t *testing.T) {
	for _, c := range []struct {
		left  int
		hopes []api.Hope
		due   []api.Due
	}{
		{0, nil, []api.Due{due("a", 1)}},
		{1, []api.Hope{hopeAt(0, 1, 1)}, []api.Due{due("a", 1)}},
		{2, []api.Hope{hopeAt(0, 1, 2)}, []api.Due{due("a", 1)}},
		{3, []api.Hope{hopeAt(0, 1, 3)}, nil},
	} {
		p := madeOf(t, api.Config{Limit: 9, Burst: 3, Timeout: 40})
		client(t, p, makeSet("a", 4), makeSet("b", 0))
		raise(t, p, "b", 600-c.left)
		deliver(t, p, 0, 2)
		syncs(t, p, 1)
		expects(t, p, c.hopes...)
		isDue(t, p, []string{"b"}, c.due...)
	}
}

// P14: the Status is written if it is another than the number of the live ones, with all else as in the cache.
func TestSyncWritesTheStatus(t *testing.T) {
	p := made(t, 9)
	client(t, p, makeSet("a", 2))
	pods(t, p, 1, 1)
	deliver(t, p, 0, 3)
	failedTwice(p, "a")
	syncs(t, p, 1)
	stored(t, p, "a#1:2/2@4 p2<1.0@2 p3<1.0@3", 4)
	hasNotFailed(t, p, "a")
	deliver(t, p, 9, 1)
	syncs(t, p, 1)
	stored(t, p, "a#1:2/2@4 p2<1.0@2 p3<1.0@3", 4)
	client(t, p, failPod("p2"), scale("a", 1))
	deliver(t, p, 9, 2)
	syncs(t, p, 1)
	stored(t, p, "a#1:1/1@7 p2<1.2@5 p3<1.0@3", 7)
}

// P14: a Status that the cache believes is right is not written, though the store has another.
func TestSyncBelievesTheCache(t *testing.T) {
	p := made(t, 9)
	client(t, p, makeSet("a", 0))
	deliver(t, p, 0, 1)
	if _, err := p.Store().Update(api.Object{Name: "a", Status: 5}); err != api.OK {
		t.Fatal(err)
	}
	failedTwice(p, "a")
	syncs(t, p, 1)
	stored(t, p, "a#1:0/5@2", 2)
	hasNotFailed(t, p, "a")
}

// P14: who has written meanwhile is not written over; the key is to be looked at again.
func TestSyncStatusRefused(t *testing.T) {
	for _, c := range []struct {
		what    string
		ops     []api.Op
		want    string
		version int
	}{
		{"scaled", []api.Op{scale("a", 3)}, "a#1:3/0@4 p2<1.0@2 p3<1.0@3", 4},
		{"scaled and back", []api.Op{scale("a", 3), scale("a", 2)}, "a#1:2/0@5 p2<1.0@2 p3<1.0@3", 5},
		{"dropped", []api.Op{dropSet("a")}, "p2<1.0@2 p3<1.0@3", 4},
		{"made again", []api.Op{dropSet("a"), makeSet("a", 2)}, "a#4:2/0@5 p2<1.0@2 p3<1.0@3", 5},
	} {
		p := made(t, 9)
		client(t, p, makeSet("a", 2))
		pods(t, p, 1, 1)
		deliver(t, p, 0, 3)
		client(t, p, c.ops...)
		syncs(t, p, 1)
		stored(t, p, c.want, c.version)
		expects(t, p)
		isDue(t, p, nil, due("a", 1))
		if t.Failed() {
			t.Fatal(c.what)
		}
	}
	p := made(t, 9)
	client(t, p, makeSet("a", 1), makeSet("z", 0))
	pods(t, p, 1)
	raise(t, p, "z", 600)
	deliver(t, p, 0, 3)
	syncs(t, p, 1)
	isDue(t, p, []string{"z"}, due("a", 1))
}

// P14: a set that is in the cache is tended, though it is in the store no more.
func TestSyncOfADroppedSet(t *testing.T) {
	p := made(t, 9)
	client(t, p, makeSet("a", 2))
	deliver(t, p, 0, 1)
	client(t, p, dropSet("a"))
	syncs(t, p, 1)
	stored(t, p, "p2<1.0@3", 3)
	expects(t, p, hopeAt(0, 1, 1))
	deliver(t, p, 1, 1)
	expects(t, p)
	deliver(t, p, 1, 1)
	syncs(t, p, 1, 0)
	stored(t, p, "p2<1.0@3", 3)
}
