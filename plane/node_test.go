package plane_test

import (
	"testing"

	"tender/api"
)

// P15: what is Gone is removed, the least Uid first; then what is Pending runs, the least Uid first; then nothing is done.
func TestNode(t *testing.T) {
	p := made(t, 20)
	client(t, p, makeSet("a", 8))
	pods(t, p, 1, 1, 99, 1, 1, 1, 1, 1, 1, 99)
	run(t, p, "p4", "p6")
	// Gone are a Pending one, a Running one and a Failed one; p5 fails and stays.
	client(t, p, dropPod("p10"), dropPod("p6"), failPod("p7"), dropPod("p7"), failPod("p5"))
	for _, c := range []struct {
		want    string
		version int
	}{
		{"a#1:8/0@1 p2<1.0@2 p3<1.0@3 p4<99.1@12 p5<1.2@18 p7<1.2!@17 p8<1.0@8 p9<1.0@9 p10<1.0!@14 p11<99.0@11", 19},
		{"a#1:8/0@1 p2<1.0@2 p3<1.0@3 p4<99.1@12 p5<1.2@18 p8<1.0@8 p9<1.0@9 p10<1.0!@14 p11<99.0@11", 20},
		{"a#1:8/0@1 p2<1.0@2 p3<1.0@3 p4<99.1@12 p5<1.2@18 p8<1.0@8 p9<1.0@9 p11<99.0@11", 21},
		{"a#1:8/0@1 p2<1.1@22 p3<1.0@3 p4<99.1@12 p5<1.2@18 p8<1.0@8 p9<1.0@9 p11<99.0@11", 22},
		{"a#1:8/0@1 p2<1.1@22 p3<1.1@23 p4<99.1@12 p5<1.2@18 p8<1.0@8 p9<1.0@9 p11<99.0@11", 23},
		{"a#1:8/0@1 p2<1.1@22 p3<1.1@23 p4<99.1@12 p5<1.2@18 p8<1.1@24 p9<1.0@9 p11<99.0@11", 24},
		{"a#1:8/0@1 p2<1.1@22 p3<1.1@23 p4<99.1@12 p5<1.2@18 p8<1.1@24 p9<1.1@25 p11<99.0@11", 25},
		{"a#1:8/0@1 p2<1.1@22 p3<1.1@23 p4<99.1@12 p5<1.2@18 p8<1.1@24 p9<1.1@25 p11<99.1@26", 26},
	} {
		does(t, p, api.Op{Kind: api.Node, Name: "p2", N: -1, Version: 9}, 1)
		stored(t, p, c.want, c.version)
	}
	nodes(t, p, 0, 0)
	if _, version := p.Stored(); version != 26 {
		t.Errorf("the version is %d", version)
	}
}

// P15: one that is Gone goes ahead of one that is Pending, whatever their Uids.
func TestNodeRemovesFirst(t *testing.T) {
	p := made(t, 9)
	client(t, p, makeSet("a", 8))
	pods(t, p, 1, 1, 1)
	client(t, p, dropPod("p4"))
	nodes(t, p, 1)
	stored(t, p, "a#1:8/0@1 p2<1.0@2 p3<1.0@3", 6)
	nodes(t, p, 1)
	client(t, p, dropPod("p2"))
	nodes(t, p, 1)
	stored(t, p, "a#1:8/0@1 p3<1.0@3", 9)
	nodes(t, p, 1, 0)
	stored(t, p, "a#1:8/0@1 p3<1.1@10", 10)
}

// P15: sets are none of its business.
func TestNodeWithoutPods(t *testing.T) {
	p := made(t, 9)
	nodes(t, p, 0)
	client(t, p, makeSet("a", 8))
	nodes(t, p, 0)
	stored(t, p, "a#1:8/0@1", 1)
}

// P15: the node looks at the store, and changes nothing else; what it did comes to the cache as all else does.
func TestNodeLooksAtTheStore(t *testing.T) {
	p := made(t, 9)
	client(t, p, makeSet("a", 2))
	pods(t, p, 1, 1)
	nodes(t, p, 1)
	isUnlisted(t, p)
	deliver(t, p, 0, 3)
	empties(p)
	p.Lay(hope(1, 1, 2))
	client(t, p, dropPod("p2"))
	nodes(t, p, 1, 1)
	cached(t, p, "a#1:2/0@1 p2<1.1@4 p3<1.0@3", 4)
	waits(t, p)
	expects(t, p, hope(1, 1, 2))
	clocked(t, p, 0, 0)
	deliver(t, p, 9, 3)
	cached(t, p, "a#1:2/0@1 p3<1.1@7", 7)
	waits(t, p, "a")
	expects(t, p, hope(1, 1))
}

// P15: where no versions are left nothing is done, and that is no error.
func TestNodeRefused(t *testing.T) {
	p := made(t, 9)
	client(t, p, makeSet("a", 0))
	pods(t, p, 1)
	raise(t, p, "a", 600)
	before := seen(p)
	nodes(t, p, 0, 0)
	if after := seen(p); after != before {
		t.Errorf("Node changed\n%s\ninto\n%s", before, after)
	}
	p = made(t, 9)
	client(t, p, makeSet("a", 0))
	pods(t, p, 1, 1)
	client(t, p, dropPod("p3"))
	raise(t, p, "a", 599)
	nodes(t, p, 1, 0)
	list, version := p.Stored()
	if len(list) != 2 || show(list[1]) != "p2<1.0@2" || version != 600 {
		t.Errorf("Stored() = %s, %d", showAll(list), version)
	}
	p = made(t, 9)
	client(t, p, makeSet("a", 0))
	pods(t, p, 1, 1)
	client(t, p, dropPod("p3"))
	raise(t, p, "a", 600)
	nodes(t, p, 0)
}
