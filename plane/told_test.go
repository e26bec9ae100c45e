package plane_test

import (
	"testing"

	"tender/api"
)

// P16: sets first, by their names, then pods, by their Uids.
func TestToldInOrder(t *testing.T) {
	p := made(t, 64)
	client(t, p, makeSet("m", 0))
	pods(t, p, 1, 1)
	client(t, p, makeSet("zz", 0), makeSet("a", 0))
	pods(t, p, 1, 1, 1, 1, 1)
	client(t, p, makeSet("ab", 0))
	want := "a#5:0/0@5 ab#11:0/0@11 m#1:0/0@1 zz#4:0/0@4 p2<1.0@2 p3<1.0@3 p6<1.0@6 p7<1.0@7 p8<1.0@8 p9<1.0@9 p10<1.0@10"
	stored(t, p, want, 11)
	deliver(t, p, 0, 11)
	cached(t, p, want, 11)
}

// P16: what is due is told with the ticks of the plane's clock, also behind Crashes.
func TestQueuedTicks(t *testing.T) {
	p := made(t, 9)
	tick, crash := api.Op{Kind: api.Tick}, api.Op{Kind: api.Crash}
	p.Queue().After("b", 3)
	p.Queue().After("a", 3)
	p.Queue().Add("c")
	isDue(t, p, []string{"c"}, api.Due{Key: "a", At: 3}, api.Due{Key: "b", At: 3})
	client(t, p, tick, tick)
	p.Queue().After("d", 5)
	isDue(t, p, []string{"c"}, api.Due{Key: "a", At: 3}, api.Due{Key: "b", At: 3}, api.Due{Key: "d", At: 7})
	client(t, p, tick)
	isDue(t, p, []string{"c", "a", "b"}, api.Due{Key: "d", At: 7})
	client(t, p, crash)
	isDue(t, p, nil)
	p.Queue().After("e", 2)
	isDue(t, p, nil, api.Due{Key: "e", At: 5})
	client(t, p, tick)
	isDue(t, p, nil, api.Due{Key: "e", At: 5})
	client(t, p, crash, crash, tick, crash)
	p.Queue().Limited("f")
	isDue(t, p, nil, api.Due{Key: "f", At: 6})
	client(t, p, tick)
	isDue(t, p, []string{"f"})
	client(t, p, tick, tick)
	clocked(t, p, 8, 0)
}

// P16: all hopes, by their Uids.
func TestExpected(t *testing.T) {
	p := made(t, 9)
	expects(t, p)
	for _, uid := range []int{10, 2, 600, 33, 1} {
		p.Lay(hope(uid, 1, 4, 5))
	}
	expects(t, p, hope(1, 1, 4, 5), hope(2, 1, 4, 5), hope(10, 1, 4, 5), hope(33, 1, 4, 5), hope(600, 1, 4, 5))
}

// P15: a Crash forgets the cache, the queue, with what is due and has failed, and the hopes; all else stays.
func TestCrash(t *testing.T) {
	p := made(t, 9)
	client(t, p, makeSet("a", 1), makeSet("b", 1))
	p.Lay(hopeAt(-39, 1, 1))
	ticks(t, p, 1)
	pods(t, p, 1)
	deliver(t, p, 0, 3)
	p.Queue().Take()
	p.Queue().Limited("a")
	p.Queue().Limited("a")
	p.Lay(hope(1, 1, 3))
	for range 2 {
		does(t, p, api.Op{Kind: api.Crash, Name: "a", N: -1, Version: 9}, 0)
		isUnlisted(t, p)
		waits(t, p)
		expects(t, p)
		stored(t, p, "a#1:1/0@1 b#2:1/0@2 p3<1.0@3", 3)
		clocked(t, p, 1, 1)
	}
	// It was in hand and is no more, and it has not failed.
	p.Queue().Limited("a")
	isDue(t, p, nil, api.Due{Key: "a", At: 2})
	deliver(t, p, 0, 3)
	isDue(t, p, []string{"a", "b"}, api.Due{Key: "a", At: 2})
}
