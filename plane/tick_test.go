package plane_test

import (
	"testing"

	"tender/api"
)

// P15: hopes run out just Timeout ticks behind the one at which they were laid.
func TestTimeout(t *testing.T) {
	for _, timeout := range []int{1, 2, 7, 39, 40} {
		for _, start := range []int{0, 1, 50} {
			p := madeOf(t, api.Config{Limit: 9, Burst: 2, Timeout: timeout})
			client(t, p, makeSet("a", 3))
			deliver(t, p, 0, 1)
			ticks(t, p, make([]int, start)...)
			syncs(t, p, 1)
			ticks(t, p, make([]int, timeout-1)...)
			expects(t, p, hopeAt(start, 1, 2))
			waits(t, p)
			does(t, p, api.Op{Kind: api.Tick, Name: "a", N: -1, Version: 9}, 1)
			expects(t, p)
			waits(t, p, "a")
			clocked(t, p, start+timeout, 1)
			ticks(t, p, 0)
			clocked(t, p, start+timeout+1, 1)
			stored(t, p, "a#1:3/0@1 p2<1.0@2 p3<1.0@3", 3)
		}
	}
}

// P13, P15: what is seen of hopes does not lay them anew; when they are met they run out no more; new ones have a tick of their own.
func TestTimeoutOfWhatIsLeft(t *testing.T) {
	p := madeOf(t, api.Config{Limit: 9, Burst: 2, Timeout: 3})
	client(t, p, makeSet("a", 4))
	deliver(t, p, 0, 1)
	syncs(t, p, 1)
	ticks(t, p, 0)
	deliver(t, p, 1, 1)
	expects(t, p, hopeAt(0, 1, 1))
	deliver(t, p, 1, 1)
	expects(t, p)
	ticks(t, p, 0)
	syncs(t, p, 1)
	expects(t, p, hopeAt(2, 1, 2))
	ticks(t, p, 0)
	deliver(t, p, 1, 1)
	ticks(t, p, 0)
	expects(t, p, hopeAt(2, 1, 1))
	ticks(t, p, 1)
	clocked(t, p, 5, 1)
	expects(t, p)
}

// P15: those that run out at a tick do so by their Uids, and each is counted; all others stay.
func TestTimeouts(t *testing.T) {
	p := madeOf(t, api.Config{Limit: 20, Burst: 2, Timeout: 5})
	client(t, p, makeSet("e", 0), makeSet("d", 0), makeSet("c", 0), makeSet("b", 0), makeSet("a", 0))
	pods(t, p, 1, 1)
	deliver(t, p, 0, 7)
	empties(p)
	p.Queue().Add("z")
	p.Lay(hopeAt(-4, 4, 0, 6))
	p.Lay(hopeAt(-4, 1, 1))
	p.Lay(hopeAt(-3, 3, 1, 6))
	p.Lay(hopeAt(-9, 2, 1))
	// Of a pod, and of nobody.
	p.Lay(hopeAt(-4, 6, 1))
	p.Lay(hopeAt(-4, 99, 1))
	p.Lay(hopeAt(0, 5, 1, 2))
	ticks(t, p, 5)
	expects(t, p, hopeAt(-3, 3, 1, 6), hopeAt(0, 5, 1, 2))
	waits(t, p, "z", "e", "d", "b")
	clocked(t, p, 1, 5)
	ticks(t, p, 1)
	expects(t, p, hopeAt(0, 5, 1, 2))
	waits(t, p, "z", "e", "d", "b", "c")
	ticks(t, p, 0, 0, 1)
	waits(t, p, "z", "e", "d", "b", "c", "a")
	clocked(t, p, 5, 7)
}

// P15: the queue ticks first.
func TestTimeoutsBehindTheQueue(t *testing.T) {
	p := madeOf(t, api.Config{Limit: 20, Burst: 2, Timeout: 2})
	client(t, p, makeSet("a", 0), makeSet("b", 0), makeSet("c", 0))
	deliver(t, p, 0, 3)
	empties(p)
	p.Lay(hopeAt(0, 1, 1))
	p.Lay(hopeAt(0, 2, 1))
	p.Queue().After("c", 2)
	p.Queue().After("b", 2)
	p.Queue().After("a", 3)
	ticks(t, p, 0)
	isDue(t, p, nil, due("b", 2), due("c", 2), due("a", 3))
	ticks(t, p, 2)
	isDue(t, p, []string{"b", "c", "a"}, due("a", 3))
	ticks(t, p, 0)
	waits(t, p, "b", "c", "a")
}

// P15: the cache says which set has a Uid, whatever the store says.
func TestTimeoutAsksTheCache(t *testing.T) {
	p := madeOf(t, api.Config{Limit: 20, Burst: 2, Timeout: 1})
	client(t, p, makeSet("a", 0))
	p.Lay(hopeAt(0, 1, 1))
	ticks(t, p, 1)
	waits(t, p)
	deliver(t, p, 0, 1)
	empties(p)
	client(t, p, dropSet("a"), makeSet("a", 0))
	p.Lay(hopeAt(1, 1, 1))
	p.Lay(hopeAt(1, 2, 1))
	ticks(t, p, 2)
	waits(t, p, "a")
	clocked(t, p, 2, 3)
	empties(p)
	deliver(t, p, 2, 2)
	empties(p)
	p.Lay(hopeAt(2, 1, 1))
	ticks(t, p, 1)
	waits(t, p)
	clocked(t, p, 3, 4)
}

// P14, P15: behind a timeout the set is looked at as the cache has it, which may be once too often.
func TestSyncBehindATimeout(t *testing.T) {
	p := madeOf(t, api.Config{Limit: 20, Burst: 2, Timeout: 1})
	client(t, p, makeSet("a", 2))
	deliver(t, p, 0, 1)
	syncs(t, p, 1)
	ticks(t, p, 1)
	syncs(t, p, 1)
	stored(t, p, "a#1:2/0@1 p2<1.0@2 p3<1.0@3 p4<1.0@4 p5<1.0@5", 5)
	expects(t, p, hopeAt(1, 1, 2))
	deliver(t, p, 2, 2)
	expects(t, p)
	deliver(t, p, 2, 2)
	syncs(t, p, 1)
	stored(t, p, "a#1:2/4@8 p2<1.0@2 p3<1.0@3 p4<1.0!@7 p5<1.0!@6", 8)
	expects(t, p, hopeAt(1, 1, 0, 4, 5))
}

// P15: a Crash forgets hopes, so that they run out no more, and what has failed.
func TestNoTimeoutBehindACrash(t *testing.T) {
	p := madeOf(t, api.Config{Limit: 2, Burst: 4, Timeout: 2})
	client(t, p, makeSet("a", 4))
	deliver(t, p, 0, 1)
	syncs(t, p, 1)
	expects(t, p, hopeAt(0, 1, 1))
	isDue(t, p, nil, due("a", 1))
	ticks(t, p, 0)
	client(t, p, api.Op{Kind: api.Crash})
	ticks(t, p, 0, 0)
	waits(t, p)
	clocked(t, p, 3, 0)
	deliver(t, p, 0, 2)
	syncs(t, p, 1)
	isDue(t, p, nil, due("a", 4))
}
