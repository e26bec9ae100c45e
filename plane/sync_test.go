package plane_test

import (
	"fmt"
	"testing"

	"tender/api"
	"tender/plane"
)

// P14: nothing, where the cache is unlisted or no key waits.
func TestSyncNothing(t *testing.T) {
	p := made(t, 9)
	nothing := func() {
		t.Helper()
		before := seen(p)
		for _, op := range []api.Op{{Kind: api.Sync}, {Kind: api.Sync, Name: "a", N: -1, Version: 9}} {
			does(t, p, op, 0)
		}
		if after := seen(p); after != before {
			t.Errorf("Sync changed\n%s\ninto\n%s", before, after)
		}
	}
	nothing()
	client(t, p, makeSet("a", 3))
	p.Queue().Add("a")
	nothing()
	p.Queue().Take()
	p.Queue().Done("a")
	deliver(t, p, 0, 1)
	p.Queue().Limited("b")
	syncs(t, p, 1)
	nothing()
	client(t, p, api.Op{Kind: api.Crash})
	p.Queue().Add("a")
	nothing()
}

// P14: the document's example.
func TestSyncExample(t *testing.T) {
	p := madeOf(t, api.Config{Limit: 64, Burst: 2, Timeout: 40})
	client(t, p, makeSet("web", 3))
	syncs(t, p, 0)
	deliver(t, p, 9, 1)
	syncs(t, p, 1)
	stored(t, p, "web#1:3/0@1 p2<1.0@2 p3<1.0@3", 3)
	expects(t, p, hopeAt(0, 1, 2))
	deliver(t, p, 1, 1)
	expects(t, p, hopeAt(0, 1, 1))
	waits(t, p, "web")
	syncs(t, p, 1)
	stored(t, p, "web#1:3/1@4 p2<1.0@2 p3<1.0@3", 4)
	deliver(t, p, 9, 2)
	expects(t, p)
	syncs(t, p, 1)
	stored(t, p, "web#1:3/2@6 p2<1.0@2 p3<1.0@3 p4<1.0@5", 6)
	expects(t, p, hopeAt(0, 1, 1))
}

// failedTwice: the key is taken by the next Sync, and has failed twice.
func failedTwice(p *plane.Plane, key string) {
	empties(p)
	p.Queue().Limited(key)
	p.Queue().Limited(key)
	p.Queue().Tick()
}

// hasNotFailed: the key is not in hand and not due, and has not failed. (It waits then, and is due.)
func hasNotFailed(t *testing.T, p *plane.Plane, key string) {
	t.Helper()
	waits(t, p)
	p.Queue().Add(key)
	waits(t, p, key)
	p.Queue().Limited(key)
	p.Queue().Limited(key)
	p.Queue().Tick()
	waits(t, p, key)
}

// P14: a key of which the cache has no set is forgotten, whatever the store has, and whatever else has this name.
func TestSyncWithoutASet(t *testing.T) {
	for _, key := range []string{"none", "late", "dropped", "p4", "\xff"} {
		p := made(t, 9)
		client(t, p, makeSet("web", 0), makeSet("dropped", 5), dropSet("dropped"), makeSet("b", 0))
		pods(t, p, 1)
		deliver(t, p, 0, 3)
		client(t, p, makeSet("late", 5))
		p.Lay(hope(1, 1))
		failedTwice(p, key)
		store, version := p.Stored()
		syncs(t, p, 1)
		stored(t, p, showAll(store), version)
		expects(t, p, hope(1, 1))
		hasNotFailed(t, p, key)
	}
}

// P14: as many pods are created as are wanted, but Burst at most.
func TestSyncGrows(t *testing.T) {
	for burst := 1; burst <= 4; burst++ {
		for replicas := range 9 {
			for live := range replicas + 1 {
				p := madeOf(t, api.Config{Limit: 64, Burst: burst, Timeout: 40})
				client(t, p, makeSet("b", 1), makeSet("a", replicas))
				for range live {
					pods(t, p, 2)
				}
				if _, err := p.Store().Update(api.Object{Name: "a", Replicas: replicas, Status: live}); err != api.OK {
					t.Fatal(err)
				}
				deliver(t, p, 0, 2+live)
				ticks(t, p, 0, 0)
				want, version := p.Stored()
				n := min(replicas-live, burst)
				for range n {
					version++
					uid := 3 + len(want) - 2
					want = append(want, api.Object{Kind: api.Pod, Name: podName(uid), Uid: uid, Version: version, Owner: 2})
				}
				syncs(t, p, 1)
				stored(t, p, showAll(want), version)
				if n > 0 {
					expects(t, p, hopeAt(2, 2, n))
				} else {
					expects(t, p)
				}
				waits(t, p, "b")
			}
		}
	}
}

// P14: live is, of the cache's pods, what is of this Uid, not Gone and not Failed.
func TestSyncCountsTheLive(t *testing.T) {
	p := madeOf(t, api.Config{Limit: 64, Burst: 4, Timeout: 40})
	client(t, p, makeSet("b", 1), makeSet("a", 5))
	pods(t, p, 1, 2, 2, 2, 2, 2, 3, 99)
	client(t, p, dropPod("p4"), failPod("p5"), dropPod("p6"), failPod("p6"))
	run(t, p, "p7")
	deliver(t, p, 0, 10)
	// Of p7 and p8, which live, the cache has not heard the end.
	client(t, p, failPod("p7"), dropPod("p8"))
	syncs(t, p, 1)
	expects(t, p, hopeAt(0, 2, 3))
	list, _ := p.Stored()
	if len(list) != 13 || list[0].Status != 2 || list[10].Owner != 2 || list[12].Name != "p13" {
		t.Errorf("Stored() = %s", showAll(list))
	}
}

// run lets a pod run, as a node does.
func run(t *testing.T, p *plane.Plane, names ...string) {
	t.Helper()
	for _, name := range names {
		if _, err := p.Store().Update(api.Object{Kind: api.Pod, Name: name, Phase: api.Running}); err != api.OK {
			t.Fatalf("Update of %s: %d", name, err)
		}
	}
}

// P14: pods of a set that had this name before are none of it.
func TestSyncOfASetMadeAgain(t *testing.T) {
	p := madeOf(t, api.Config{Limit: 64, Burst: 4, Timeout: 40})
	client(t, p, makeSet("a", 2))
	pods(t, p, 1, 1)
	client(t, p, dropSet("a"), makeSet("a", 1))
	deliver(t, p, 0, 3)
	p.Lay(hope(1, 1))
	syncs(t, p, 1)
	stored(t, p, "a#4:1/0@5 p2<1.0@2 p3<1.0@3 p5<4.0@6", 6)
	expects(t, p, hope(1, 1), hopeAt(0, 4, 1))
}

// shrinking: a set a with the pods p2 to p10, of which p3, p5, p9 and p10 run; the cache knows that it shall have fewer.
func shrinking(t *testing.T, burst, replicas int) *plane.Plane {
	t.Helper()
	p := madeOf(t, api.Config{Limit: 64, Burst: burst, Timeout: 40})
	client(t, p, makeSet("a", 8))
	pods(t, p, 1, 1, 1, 1, 1, 1, 1, 1, 1)
	run(t, p, "p3", "p10", "p9", "p5")
	if _, err := p.Store().Update(api.Object{Name: "a", Replicas: replicas, Status: 9}); err != api.OK {
		t.Fatal(err)
	}
	deliver(t, p, 0, 10)
	return p
}

// marked tells the pods that were marked behind version 15, in the order of marking.
func marked(t *testing.T, p *plane.Plane) string {
	t.Helper()
	events, err := p.Store().Since(15, 99)
	if err != api.OK {
		t.Fatal(err)
	}
	var list []api.Object
	for _, e := range events {
		if e.Sort != api.Modified || !e.Object.Gone {
			t.Errorf("there was %+v", e)
		}
		list = append(list, e.Object)
	}
	return showAll(list)
}

// P14: of the live ones those that are Pending go first, of these those with the greatest Uids; but Burst at most.
func TestSyncShrinks(t *testing.T) {
	for _, c := range []struct {
		burst, replicas int
		marked          string
		hopes           []int
	}{
		{1, 8, "p8<1.0!@16", []int{8}},
		{4, 8, "p8<1.0!@16", []int{8}},
		{1, 0, "p8<1.0!@16", []int{8}},
		{2, 0, "p8<1.0!@16 p7<1.0!@17", []int{7, 8}},
		{3, 6, "p8<1.0!@16 p7<1.0!@17 p6<1.0!@18", []int{6, 7, 8}},
		{4, 6, "p8<1.0!@16 p7<1.0!@17 p6<1.0!@18", []int{6, 7, 8}},
		{4, 5, "p8<1.0!@16 p7<1.0!@17 p6<1.0!@18 p4<1.0!@19", []int{4, 6, 7, 8}},
		{4, 0, "p8<1.0!@16 p7<1.0!@17 p6<1.0!@18 p4<1.0!@19", []int{4, 6, 7, 8}},
	} {
		p := shrinking(t, c.burst, c.replicas)
		ticks(t, p, 0)
		syncs(t, p, 1)
		if got := marked(t, p); got != c.marked {
			t.Errorf("with %+v there were marked %s", c, got)
		}
		expects(t, p, hopeAt(1, 1, 0, c.hopes...))
		hasNotFailed(t, p, "a")
	}
}

// P14: then those that are Running go, the greatest Uids first; those that are Failed or Gone do not go, nor another set's.
func TestSyncShrinksTheRunning(t *testing.T) {
	p := shrinking(t, 4, 1)
	client(t, p, failPod("p8"), failPod("p9"), dropPod("p7"), makeSet("b", 0))
	pods(t, p, 11)
	run(t, p, "p4")
	deliver(t, p, 9, 6)
	syncs(t, p, 1)
	events, _ := p.Store().Since(21, 99)
	text := ""
	for _, e := range events {
		text += show(e.Object) + " "
	}
	// Left are p2 and p6 Pending, p3, p4, p5 and p10 Running.
	if want := "p6<1.0!@22 p2<1.0!@23 p10<1.1!@24 p5<1.1!@25 a#1:1/6@26 "; text != want {
		t.Errorf("Sync wrote %s, want %s", text, want)
	}
	expects(t, p, hopeAt(0, 1, 0, 2, 5, 6, 10))
}

// P13, P14: as long as there are hopes for its Uid, nothing is created and nothing marked, but the Status is written; those of others do not matter.
func TestSyncWithHopes(t *testing.T) {
	for _, replicas := range []int{0, 2, 8} {
		for _, laid := range []api.Hope{hope(2, 1), hope(2, 0, 99), hope(2, 3, 4, 5)} {
			p := madeOf(t, api.Config{Limit: 64, Burst: 4, Timeout: 40})
			client(t, p, makeSet("b", 1), makeSet("a", replicas))
			pods(t, p, 2, 2)
			deliver(t, p, 0, 4)
			p.Lay(laid)
			p.Lay(hope(3, 1))
			failedTwice(p, "a")
			syncs(t, p, 1)
			stored(t, p, fmt.Sprintf("a#2:%d/2@5 b#1:1/0@1 p3<2.0@3 p4<2.0@4", replicas), 5)
			expects(t, p, laid, hope(3, 1))
			hasNotFailed(t, p, "a")
		}
	}
	p := made(t, 9)
	client(t, p, makeSet("a", 1))
	deliver(t, p, 0, 1)
	p.Lay(hope(2, 1))
	syncs(t, p, 1)
	stored(t, p, "a#1:1/0@1 p2<1.0@2", 2)
	expects(t, p, hopeAt(0, 1, 1), hope(2, 1))
}

// P14: the first that waits is looked at, and no other.
func TestSyncTakesTheFirst(t *testing.T) {
	p := made(t, 9)
	client(t, p, makeSet("c", 1), makeSet("a", 1), makeSet("b", 1))
	deliver(t, p, 0, 3)
	p.Queue().Add("c")
	waits(t, p, "a", "b", "c")
	for i, want := range []string{"p4<2.0@4", "p5<3.0@5", "p6<1.0@6"} {
		syncs(t, p, 1)
		if list, _ := p.Stored(); len(list) != 4+i || show(list[3+i]) != want {
			t.Errorf("Stored() = %s, want %s", showAll(list), want)
		}
	}
	syncs(t, p, 0)
	expects(t, p, hopeAt(0, 1, 1), hopeAt(0, 2, 1), hopeAt(0, 3, 1))
}

// P14: a Sync changes nothing of the cache.
func TestSyncLeavesTheCache(t *testing.T) {
	p := shrinking(t, 4, 1)
	list, version, _ := p.Cached()
	syncs(t, p, 1)
	cached(t, p, showAll(list), version)
	p = made(t, 9)
	client(t, p, makeSet("a", 3))
	deliver(t, p, 0, 1)
	syncs(t, p, 1)
	cached(t, p, "a#1:3/0@1", 1)
}
