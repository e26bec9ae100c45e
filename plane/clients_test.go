package plane_test

import (
	"strings"
	"testing"

	"tender/api"
	"tender/plane"
)

// P10: the numbers that a plane may have, and those that it may not.
func TestNew(t *testing.T) {
	right := api.Config{Limit: 8, Burst: 2, Timeout: 5}
	for _, n := range []int{least, -1, 0, 1, 4, 5, 40, 41, 64, 65, 257, 1 + 1<<32, most} {
		for what, c := range map[string]struct {
			config api.Config
			most   int
		}{
			"Limit":   {api.Config{Limit: n, Burst: right.Burst, Timeout: right.Timeout}, 64},
			"Burst":   {api.Config{Limit: right.Limit, Burst: n, Timeout: right.Timeout}, 4},
			"Timeout": {api.Config{Limit: right.Limit, Burst: right.Burst, Timeout: n}, 40},
		} {
			p, err := plane.New(c.config)
			if n >= 1 && n <= c.most {
				if p == nil || err != api.OK {
					t.Errorf("New with the %s %d = %v, %d", what, n, p, err)
				}
			} else if p != nil || err != api.ErrInvalid {
				t.Errorf("New with the %s %d = %v, %d, want ErrInvalid", what, n, p, err)
			}
		}
	}
	if p, err := plane.New(api.Config{}); p != nil || err != api.ErrInvalid {
		t.Errorf("New of nothing = %v, %d", p, err)
	}
}

// P10, P11, P16: there is nothing in a new plane.
func TestNewIsEmpty(t *testing.T) {
	p := made(t, 3)
	stored(t, p, "", 0)
	isUnlisted(t, p)
	waits(t, p)
	expects(t, p)
	clocked(t, p, 0, 0)
}

// P10: the limit is that of the store.
func TestLimit(t *testing.T) {
	for _, limit := range []int{1, 2, 64} {
		p := made(t, limit)
		for i := range limit {
			client(t, p, makeSet(string([]byte{'a' + byte(i/26), 'a' + byte(i%26)}), 0))
		}
		refuses(t, p, makeSet("z", 0), api.ErrFull)
		refuses(t, p, makeSet("aa", 0), api.ErrExists)
		client(t, p, dropSet("aa"), makeSet("z", 0))
	}
}

// P10: a set is made with N as Replicas, whatever the Version.
func TestMakeSet(t *testing.T) {
	p := made(t, 9)
	writes(t, p, makeSet("web", 3), "web#1:3/0@1")
	writes(t, p, api.Op{Kind: api.MakeSet, Name: "a", Version: 77}, "a#2:0/0@2")
	writes(t, p, makeSet("eightlet", 8), "eightlet#3:8/0@3")
	stored(t, p, "a#2:0/0@2 eightlet#3:8/0@3 web#1:3/0@1", 3)
	for _, n := range []int{-1, 9, 256, least, most} {
		refuses(t, p, makeSet("b", n), api.ErrInvalid)
		refuses(t, p, makeSet("web", n), api.ErrInvalid)
	}
	for _, name := range []string{"", "ninechars", "A", "p1", "\xff", strings.Repeat("a", 1000)} {
		refuses(t, p, makeSet(name, 1), api.ErrInvalid)
	}
	refuses(t, p, makeSet("web", 3), api.ErrExists)
}

// P10: a set is scaled, and its Status stays as it is.
func TestScale(t *testing.T) {
	p := made(t, 9)
	client(t, p, makeSet("web", 3), makeSet("b", 1))
	if _, err := p.Store().Update(api.Object{Name: "web", Replicas: 3, Status: 2}); err != api.OK {
		t.Fatal(err)
	}
	writes(t, p, api.Op{Kind: api.Scale, Name: "web", N: 5, Version: 3}, "web#1:5/2@4")
	writes(t, p, scale("web", 0), "web#1:0/2@5")
	writes(t, p, scale("web", 0), "web#1:0/2@5")
	writes(t, p, scale("web", 8), "web#1:8/2@6")
	stored(t, p, "b#2:1/0@2 web#1:8/2@6", 6)
	for _, version := range []int{5, 7, -1, least, most} {
		refuses(t, p, api.Op{Kind: api.Scale, Name: "web", N: 4, Version: version}, api.ErrConflict)
	}
	for _, n := range []int{-1, 9, 256, least, most} {
		refuses(t, p, scale("web", n), api.ErrInvalid)
		refuses(t, p, scale("none", n), api.ErrInvalid)
		refuses(t, p, api.Op{Kind: api.Scale, Name: "web", N: n, Version: 99}, api.ErrInvalid)
	}
	pods(t, p, 1)
	for _, name := range []string{"none", "", "p3", "Web", "web "} {
		refuses(t, p, scale(name, 1), api.ErrMissing)
		refuses(t, p, api.Op{Kind: api.Scale, Name: name, Version: 6}, api.ErrMissing)
	}
}

// P10: a set is dropped, if it has the Version or that is 0.
func TestDropSet(t *testing.T) {
	p := made(t, 9)
	client(t, p, makeSet("a", 3), makeSet("b", 1))
	pods(t, p, 1)
	for _, version := range []int{2, 3, -1, least, most} {
		refuses(t, p, api.Op{Kind: api.DropSet, Name: "a", Version: version}, api.ErrConflict)
	}
	writes(t, p, api.Op{Kind: api.DropSet, Name: "a", Version: 1, N: -9}, "a#1:3/0@4")
	writes(t, p, dropSet("b"), "b#2:1/0@5")
	stored(t, p, "p3<1.0@3", 5)
	for _, name := range []string{"a", "b", "p3", "", "A"} {
		refuses(t, p, dropSet(name), api.ErrMissing)
	}
	writes(t, p, makeSet("a", 2), "a#4:2/0@6")
}

// P10: a pod is marked, whatever N and Version.
func TestDropPod(t *testing.T) {
	p := made(t, 9)
	client(t, p, makeSet("a", 3))
	pods(t, p, 1, 1)
	writes(t, p, api.Op{Kind: api.DropPod, Name: "p2", N: -1, Version: 99}, "p2<1.0!@4")
	writes(t, p, dropPod("p2"), "p2<1.0!@4")
	stored(t, p, "a#1:3/0@1 p2<1.0!@4 p3<1.0@3", 4)
	for _, name := range []string{"a", "p1", "p4", "", "p02", "P2"} {
		refuses(t, p, dropPod(name), api.ErrMissing)
	}
}

// P10: a pod fails, whatever N and Version, and nothing else of it changes.
func TestFailPod(t *testing.T) {
	p := made(t, 9)
	client(t, p, makeSet("a", 3))
	pods(t, p, 1, 1)
	writes(t, p, api.Op{Kind: api.FailPod, Name: "p3", N: 1, Version: 99}, "p3<1.2@4")
	writes(t, p, failPod("p3"), "p3<1.2@4")
	client(t, p, dropPod("p2"))
	writes(t, p, failPod("p2"), "p2<1.2!@6")
	stored(t, p, "a#1:3/0@1 p2<1.2!@6 p3<1.2@4", 6)
	for _, name := range []string{"a", "p1", "p4", "", "p02", "P2"} {
		refuses(t, p, failPod(name), api.ErrMissing)
	}
}

// P10: all of a kind; N that is no kind is wrong, also if it is one by its last 8 bits.
func TestRead(t *testing.T) {
	p := made(t, 20)
	for _, kind := range []int{0, 1} {
		writes(t, p, api.Op{Kind: api.Read, N: kind}, "")
	}
	client(t, p, makeSet("b", 3), makeSet("ab", 1))
	pods(t, p, 1, 2, 1, 1, 1, 1, 1, 1)
	client(t, p, makeSet("aa", 1), dropPod("p9"))
	for _, name := range []string{"", "b"} {
		writes(t, p, api.Op{Kind: api.Read, N: 0, Name: name, Version: 99}, "aa#11:1/0@11 ab#2:1/0@2 b#1:3/0@1")
		writes(t, p, api.Op{Kind: api.Read, N: 1, Name: name, Version: -1}, "p3<1.0@3 p4<2.0@4 p5<1.0@5 p6<1.0@6 p7<1.0@7 p8<1.0@8 p9<1.0!@12 p10<1.0@10")
	}
	for _, n := range []int{-1, 2, 255, 256, 257, -255, -256, 1 << 32, least, most} {
		refuses(t, p, api.Op{Kind: api.Read, N: n}, api.ErrInvalid)
	}
}

// P10: no other operations.
func TestOtherKinds(t *testing.T) {
	p := made(t, 9)
	client(t, p, makeSet("a", 1))
	pods(t, p, 1)
	deliver(t, p, 1, 2)
	for kind := range 256 {
		if kind >= int(api.MakeSet) && kind <= int(api.Crash) {
			continue
		}
		for _, n := range []int{-1, 0, 1, 9} {
			refuses(t, p, api.Op{Kind: uint8(kind), Name: "a", N: n}, api.ErrInvalid)
			refuses(t, p, api.Op{Kind: uint8(kind), Name: "p2", N: n, Version: 1}, api.ErrInvalid)
		}
	}
}

// P10: clients write into the store, and into nothing else.
func TestClientsWriteIntoTheStoreAlone(t *testing.T) {
	p := made(t, 9)
	client(t, p, makeSet("a", 1), makeSet("b", 1))
	pods(t, p, 1)
	deliver(t, p, 0, 3)
	empties(p)
	p.Lay(hope(1, 1, 3))
	client(t, p, makeSet("c", 1), scale("a", 2), dropPod("p3"), failPod("p3"), dropSet("a"), api.Op{Kind: api.Read})
	cached(t, p, "a#1:1/0@1 b#2:1/0@2 p3<1.0@3", 3)
	waits(t, p)
	expects(t, p, hope(1, 1, 3))
}

// P10: at the version 600 clients write no more, and what is not right is told first, the rest later.
func TestClientsExhausted(t *testing.T) {
	p := made(t, 3)
	client(t, p, makeSet("a", 0))
	pods(t, p, 1, 1)
	raise(t, p, "a", 600)
	for _, op := range []api.Op{
		makeSet("a", 0), makeSet("b", 0), scale("a", 0), scale("a", 1), scale("b", 0), {Kind: api.Scale, Name: "a", Version: 1},
		dropSet("a"), dropSet("b"), {Kind: api.DropSet, Name: "a", Version: 1}, dropPod("p2"), dropPod("p9"), failPod("p2"), failPod("p9"),
	} {
		refuses(t, p, op, api.ErrExhausted)
	}
	for _, op := range []api.Op{makeSet("B", 0), makeSet("a", 9), scale("a", -1), scale("b", 9), {Kind: api.Read, N: 2}, {Kind: api.Deliver, N: -1}} {
		refuses(t, p, op, api.ErrInvalid)
	}
	a, _ := p.Store().Get(api.Set, "a")
	writes(t, p, api.Op{Kind: api.Read}, show(a))
	deliver(t, p, 0, 3)
	deliver(t, p, 9, 0)
}
