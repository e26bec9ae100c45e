package plane_test

import (
	"testing"

	"tender/api"
	"tender/plane"
)

// P12: whatever comes of a set, its name is added to the queue.
func TestNoticesOfSets(t *testing.T) {
	p := made(t, 9)
	deliver(t, p, 0, 0)
	for _, op := range []api.Op{makeSet("web", 1), scale("web", 2), dropSet("web"), makeSet("web", 1)} {
		client(t, p, op)
		waits(t, p)
		deliver(t, p, 1, 1)
		waits(t, p, "web")
		empties(p)
	}
}

// P12: one after the other, and each name once.
func TestNoticesInTheirOrder(t *testing.T) {
	p := made(t, 9)
	deliver(t, p, 0, 0)
	client(t, p, makeSet("c", 1), makeSet("a", 1), scale("c", 2), makeSet("b", 1), dropSet("a"))
	pods(t, p, 1)
	deliver(t, p, 9, 6)
	waits(t, p, "c", "a", "b")
}

// P12: a set that is in hand is called again.
func TestNoticesOfASetInHand(t *testing.T) {
	p := made(t, 9)
	client(t, p, makeSet("a", 1))
	deliver(t, p, 0, 1)
	p.Queue().Take()
	client(t, p, scale("a", 2))
	deliver(t, p, 1, 1)
	waits(t, p)
	p.Queue().Done("a")
	waits(t, p, "a")
}

// P12: the hopes of a set are forgotten with it, and no others.
func TestHopesOfDeletedSets(t *testing.T) {
	p := made(t, 9)
	client(t, p, makeSet("a", 1), makeSet("b", 1))
	deliver(t, p, 0, 2)
	for uid := range 4 {
		p.Lay(hope(uid, 2, 8, 9))
	}
	client(t, p, scale("a", 2), makeSet("c", 1))
	deliver(t, p, 9, 2)
	expects(t, p, hope(0, 2, 8, 9), hope(1, 2, 8, 9), hope(2, 2, 8, 9), hope(3, 2, 8, 9))
	client(t, p, dropSet("b"))
	deliver(t, p, 9, 1)
	expects(t, p, hope(0, 2, 8, 9), hope(1, 2, 8, 9), hope(3, 2, 8, 9))
}

// owned: the set a, of Uid 1, and p2, which is its own, both in the cache; nothing waits.
func owned(t *testing.T) *plane.Plane {
	t.Helper()
	p := made(t, 9)
	client(t, p, makeSet("a", 1))
	pods(t, p, 1)
	deliver(t, p, 0, 2)
	empties(p)
	return p
}

// P12, P13: what each notice of a pod lets be seen for its Owner, and for nobody else.
func TestNoticesOfPods(t *testing.T) {
	created := func(t *testing.T, p *plane.Plane) { pods(t, p, 1) }
	goes := func(t *testing.T, p *plane.Plane) { client(t, p, dropPod("p2")) }
	fails := func(t *testing.T, p *plane.Plane) { client(t, p, failPod("p2")) }
	removed := func(t *testing.T, p *plane.Plane) { removes(t, p, "p2") }
	for _, c := range []struct {
		what     string
		write    func(*testing.T, *plane.Plane)
		laid     api.Hope
		expected []api.Hope
	}{
		{"created, one of two hoped for", created, hope(1, 2), []api.Hope{hope(1, 1)}},
		{"created, the only one hoped for", created, hope(1, 1), nil},
		{"created, and deletions left", created, hope(1, 1, 2), []api.Hope{hope(1, 0, 2)}},
		{"created, and none hoped for", created, hope(1, 0, 2), []api.Hope{hope(1, 0, 2)}},
		{"created, and its deletion not seen", created, hope(1, 2, 3), []api.Hope{hope(1, 1, 3)}},
		{"marked, one of two", goes, hope(1, 0, 2, 3), []api.Hope{hope(1, 0, 3)}},
		{"marked, the last of three", goes, hope(1, 0, 0, 1, 2), []api.Hope{hope(1, 0, 0, 1)}},
		{"marked, the only one", goes, hope(1, 0, 2), nil},
		{"marked, and creations left", goes, hope(1, 1, 2), []api.Hope{hope(1, 1)}},
		{"marked, and another hoped for", goes, hope(1, 0, 3), []api.Hope{hope(1, 0, 3)}},
		{"marked, and none hoped for", goes, hope(1, 2), []api.Hope{hope(1, 2)}},
		{"failed", fails, hope(1, 1, 2), []api.Hope{hope(1, 1, 2)}},
		{"removed, not marked before", removed, hope(1, 1, 2, 3), []api.Hope{hope(1, 1, 3)}},
		{"removed, the only one", removed, hope(1, 0, 2), nil},
	} {
		t.Run(c.what, func(t *testing.T) {
			p := owned(t)
			p.Lay(c.laid)
			p.Lay(hope(2, 5, 2, 3))
			c.write(t, p)
			deliver(t, p, 1, 1)
			expects(t, p, append(c.expected, hope(2, 5, 2, 3))...)
			waits(t, p, "a")
		})
	}
}

// P12: a pod that was Gone before does not go once more; but it is deleted.
func TestNoticesOfPodsThatAreGone(t *testing.T) {
	p := owned(t)
	client(t, p, dropPod("p2"))
	deliver(t, p, 1, 1)
	p.Lay(hope(1, 1, 2))
	client(t, p, failPod("p2"))
	deliver(t, p, 1, 1)
	expects(t, p, hope(1, 1, 2))
	removes(t, p, "p2")
	deliver(t, p, 1, 1)
	expects(t, p, hope(1, 1))
}

// P12: of a pod that is listed anew, and Gone by now, a creation and its deletion are seen.
func TestNoticesOfPodsListedAnew(t *testing.T) {
	p := owned(t)
	p.Lay(hope(1, 3, 2, 3, 4))
	pods(t, p, 1, 1)
	client(t, p, dropPod("p3"), failPod("p4"), dropPod("p2"))
	raise(t, p, "a", 40)
	deliver(t, p, 0, 4)
	expects(t, p, hope(1, 1, 4))

	p = owned(t)
	p.Lay(hope(1, 3, 2, 3))
	pods(t, p, 1)
	removes(t, p, "p2")
	removes(t, p, "p3")
	raise(t, p, "a", 40)
	deliver(t, p, 0, 2)
	expects(t, p, hope(1, 3, 3))

	p = owned(t)
	p.Lay(hope(1, 1, 3))
	pods(t, p, 1)
	client(t, p, dropPod("p3"))
	raise(t, p, "a", 40)
	deliver(t, p, 0, 2)
	expects(t, p)
}

// P12: hopes lie as they were laid, but for what is seen.
func TestHopesKeepTheirTick(t *testing.T) {
	p := owned(t)
	p.Lay(api.Hope{Uid: 1, Creations: 2, Deletions: []int{2, 9}, At: 33})
	does(t, p, api.Op{Kind: api.Tick}, 0)
	pods(t, p, 1)
	client(t, p, dropPod("p2"))
	deliver(t, p, 2, 2)
	expects(t, p, api.Hope{Uid: 1, Creations: 1, Deletions: []int{9}, At: 33})
}

// P12: the set is called by a pod that has its Uid for an Owner, if it is in the cache behind the notice.
func TestPodsCallTheirSet(t *testing.T) {
	p := made(t, 20)
	deliver(t, p, 0, 0)
	client(t, p, makeSet("a", 1), makeSet("b", 1))
	pods(t, p, 1, 2, 3, 99, 1)
	deliver(t, p, 2, 2)
	empties(p)
	deliver(t, p, 1, 1)
	waits(t, p, "a")
	deliver(t, p, 1, 1)
	waits(t, p, "a", "b")
	empties(p)
	// An Owner that is a pod's Uid, and one that is nobody's.
	deliver(t, p, 2, 2)
	waits(t, p)
	client(t, p, dropSet("a"), makeSet("a", 1), dropPod("p3"))
	deliver(t, p, 1, 1)
	waits(t, p, "a")
	// The set a of Uid 1 is dropped, and then there is another one.
	deliver(t, p, 2, 2)
	empties(p)
	deliver(t, p, 1, 1)
	waits(t, p)
}

// P12: pods of a set that is no more in the cache call nobody, but their hopes are seen all the same.
func TestPodsWithoutASet(t *testing.T) {
	p := owned(t)
	p.Lay(hope(9, 1, 3))
	pods(t, p, 9)
	client(t, p, dropPod("p3"))
	deliver(t, p, 1, 1)
	expects(t, p, hope(9, 0, 3))
	waits(t, p)
	deliver(t, p, 1, 1)
	expects(t, p)
	waits(t, p)
}

// P12: listing anew tells sets first, so a pod calls a set that comes with it, and none that goes with it.
func TestPodsListedAnewCallTheirSet(t *testing.T) {
	p := owned(t)
	client(t, p, makeSet("b", 1), dropSet("a"))
	pods(t, p, 1, 3)
	client(t, p, dropPod("p2"), makeSet("c", 1))
	raise(t, p, "c", 40)
	p.Queue().Add("z")
	deliver(t, p, 0, 6)
	waits(t, p, "z", "a", "b", "c")

	p = owned(t)
	client(t, p, makeSet("z", 1))
	deliver(t, p, 1, 1)
	empties(p)
	pods(t, p, 3, 1)
	raise(t, p, "z", 40)
	deliver(t, p, 0, 3)
	waits(t, p, "z", "a")
}
