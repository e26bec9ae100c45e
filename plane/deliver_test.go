package plane_test

import (
	"testing"

	"tender/api"
)

// P11: an unlisted cache is listed, whatever N, and of every object a notice comes.
func TestDeliverLists(t *testing.T) {
	for _, n := range []int{0, 1, 4, 9, most} {
		p := made(t, 20)
		client(t, p, makeSet("web", 3), makeSet("db", 1))
		pods(t, p, 1, 2)
		client(t, p, dropPod("p3"), scale("web", 4))
		isUnlisted(t, p)
		deliver(t, p, n, 4)
		cached(t, p, "db#2:1/0@2 web#1:4/0@6 p3<1.0!@5 p4<2.0@4", 6)
		deliver(t, p, n, 0)
		cached(t, p, "db#2:1/0@2 web#1:4/0@6 p3<1.0!@5 p4<2.0@4", 6)
	}
}

// P11: nothing is enough to be listed.
func TestDeliverListsNothing(t *testing.T) {
	p := made(t, 1)
	deliver(t, p, 5, 0)
	cached(t, p, "", 0)
	client(t, p, makeSet("a", 1))
	deliver(t, p, 0, 0)
	cached(t, p, "", 0)
	deliver(t, p, 1, 1)
	cached(t, p, "a#1:1/0@1", 1)
}

// P11: fewer events than there are, as many, more and none; each is taken in by itself.
func TestDeliverEvents(t *testing.T) {
	p := made(t, 9)
	client(t, p, makeSet("a", 1))
	deliver(t, p, 0, 1)
	client(t, p, makeSet("b", 2), scale("b", 3))
	pods(t, p, 1)
	client(t, p, dropPod("p3"), failPod("p3"), dropSet("b"))
	removes(t, p, "p3")
	for i, want := range []string{
		"a#1:1/0@1",
		"a#1:1/0@1 b#2:2/0@2",
		"a#1:1/0@1 b#2:3/0@3",
		"a#1:1/0@1 b#2:3/0@3 p3<1.0@4",
		"a#1:1/0@1 b#2:3/0@3 p3<1.0!@5",
		"a#1:1/0@1 b#2:3/0@3 p3<1.2!@6",
		"a#1:1/0@1 p3<1.2!@6",
		"a#1:1/0@1",
	} {
		deliver(t, p, min(i, 1), min(i, 1))
		cached(t, p, want, 1+i)
		deliver(t, p, 0, 0)
		cached(t, p, want, 1+i)
	}
	for _, n := range []int{0, 1, most} {
		deliver(t, p, n, 0)
		cached(t, p, "a#1:1/0@1", 8)
	}
}

// P11: the next N events, as many as there are.
func TestDeliverSomeEvents(t *testing.T) {
	for _, c := range []struct{ n, did int }{{0, 0}, {1, 1}, {4, 4}, {5, 5}, {6, 5}, {100, 5}, {1 << 32, 5}, {most, 5}} {
		p := made(t, 9)
		client(t, p, makeSet("a", 0))
		deliver(t, p, 0, 1)
		raise(t, p, "a", 6)
		deliver(t, p, c.n, c.did)
		o := api.Object{Name: "a", Uid: 1, Version: 1 + c.did, Replicas: c.did % 2}
		cached(t, p, show(o), 1+c.did)
		deliver(t, p, most, 5-c.did)
		cached(t, p, "a#1:1/0@6", 6)
	}
}

// P11: below 0 is wrong, whether the cache is unlisted, listed, behind or too late.
func TestDeliverInvalid(t *testing.T) {
	p := made(t, 9)
	wrong := func() {
		t.Helper()
		for _, n := range []int{-1, -2, -128, least} {
			refuses(t, p, api.Op{Kind: api.Deliver, N: n}, api.ErrInvalid)
		}
	}
	wrong()
	client(t, p, makeSet("a", 0))
	p.Lay(hope(1, 1))
	wrong()
	isUnlisted(t, p)
	deliver(t, p, 0, 1)
	wrong()
	client(t, p, scale("a", 4))
	wrong()
	raise(t, p, "a", 60)
	wrong()
	cached(t, p, "a#1:0/0@1", 1)
}

// P11: a cache that is 16 events late takes them in; one that is later is listed anew, also by Deliver of none.
func TestDeliverLate(t *testing.T) {
	for _, first := range []int{0, 1, 5} {
		for late := 14; late <= 40; late++ {
			p := made(t, 9)
			if first > 0 {
				client(t, p, makeSet("a", 0))
				raise(t, p, "a", first)
			}
			deliver(t, p, 0, min(first, 1))
			if first == 0 {
				client(t, p, makeSet("a", 0))
			}
			raise(t, p, "a", first+late)
			a, _ := p.Store().Get(api.Set, "a")
			if late > 16 {
				deliver(t, p, 0, 1)
				cached(t, p, show(a), first+late)
			} else {
				deliver(t, p, 0, 0)
				deliver(t, p, 2, 2)
				deliver(t, p, most, late-2)
				cached(t, p, show(a), first+late)
			}
			deliver(t, p, most, 0)
		}
	}
}

// P11: of listing anew come notices of what is in but one of the two, or in both with different versions.
func TestListedAnew(t *testing.T) {
	p := made(t, 20)
	client(t, p, makeSet("e", 1), makeSet("d", 1), makeSet("c", 1), makeSet("b", 1))
	pods(t, p, 1, 1, 1, 1)
	deliver(t, p, 0, 8)
	waits(t, p, "b", "c", "d", "e")
	empties(p)
	// b and p5 stay as they are; c is dropped, d scaled, e made again.
	client(t, p, dropSet("c"), scale("d", 3), dropSet("e"), makeSet("e", 2), makeSet("f", 1), makeSet("a", 2))
	client(t, p, dropPod("p6"), failPod("p7"))
	removes(t, p, "p8")
	pods(t, p, 4, 12)
	raise(t, p, "d", 29)
	// Nobody ever sees g, nor p15.
	client(t, p, makeSet("g", 1), dropSet("g"))
	pods(t, p, 2)
	removes(t, p, "p15")
	deliver(t, p, 0, 11)
	cached(t, p, "a#11:2/0@14 b#4:1/0@4 d#2:1/0@29 e#9:2/0@12 f#10:1/0@13 p5<1.0@5 p6<1.0!@15 p7<1.2@16 p12<4.0@18 p13<12.0@19", 33)
	waits(t, p, "a", "c", "d", "e", "f", "b")
	deliver(t, p, most, 0)
}

// P11: a set that was dropped and made again meanwhile is Deleted, and then Added.
func TestListedAnewOfAnotherUid(t *testing.T) {
	p := made(t, 9)
	client(t, p, makeSet("a", 1), makeSet("b", 0))
	deliver(t, p, 0, 2)
	empties(p)
	p.Lay(hope(1, 3))
	p.Lay(hope(2, 1))
	p.Lay(hope(3, 2))
	client(t, p, dropSet("a"), makeSet("a", 1))
	raise(t, p, "b", 30)
	deliver(t, p, 0, 3)
	cached(t, p, "a#3:1/0@4 b#2:0/0@30", 30)
	waits(t, p, "a", "b")
	expects(t, p, hope(2, 1), hope(3, 2))
}

// P11: Deleted and then Added, of each of many.
func TestListedAnewOfManyOtherUids(t *testing.T) {
	p := made(t, 64)
	var names []string
	for i := range 60 {
		names = append(names, string([]byte{'a' + byte(i*7%26), 'a' + byte(i/26)}))
		client(t, p, makeSet(names[i], 1))
	}
	deliver(t, p, 0, 60)
	for _, name := range names {
		client(t, p, dropSet(name), makeSet(name, 2))
	}
	deliver(t, p, 0, 120)
	list, version := p.Stored()
	cached(t, p, showAll(list), version)
}

// P11: the same by events.
func TestEventsOfAnotherUid(t *testing.T) {
	p := made(t, 9)
	client(t, p, makeSet("a", 1))
	deliver(t, p, 0, 1)
	p.Lay(hope(1, 3))
	p.Lay(hope(2, 2))
	client(t, p, dropSet("a"), makeSet("a", 1))
	deliver(t, p, 1, 1)
	cached(t, p, "", 2)
	expects(t, p, hope(2, 2))
	deliver(t, p, 1, 1)
	cached(t, p, "a#2:1/0@3", 3)
	expects(t, p, hope(2, 2))
}

// P11, P15: behind a Crash the cache is unlisted, and is listed by the next Deliver.
func TestDeliverAfterCrash(t *testing.T) {
	p := made(t, 9)
	client(t, p, makeSet("b", 1), makeSet("a", 1))
	pods(t, p, 1)
	deliver(t, p, 0, 3)
	client(t, p, scale("a", 2))
	does(t, p, api.Op{Kind: api.Crash}, 0)
	isUnlisted(t, p)
	client(t, p, scale("a", 3))
	deliver(t, p, 0, 3)
	cached(t, p, "a#2:3/0@5 b#1:1/0@1 p3<1.0@3", 5)
	waits(t, p, "a", "b")
}

// P11: the last versions are delivered as all others.
func TestDeliverAtTheLastVersion(t *testing.T) {
	p := made(t, 9)
	client(t, p, makeSet("a", 0))
	raise(t, p, "a", 590)
	deliver(t, p, 0, 1)
	raise(t, p, "a", 600)
	deliver(t, p, 7, 7)
	cached(t, p, "a#1:0/0@597", 597)
	deliver(t, p, 7, 3)
	cached(t, p, "a#1:1/0@600", 600)
}
