package plane_test

import (
	"fmt"
	"math/rand/v2"
	"runtime"
	"slices"
	"strings"
	"testing"
	"time"
	"unsafe"
	"weak"

	"tender/api"
	"tender/plane"
)

// spoil writes zero values into a list and into its spare room.
func spoil[T any](list []T) { clear(list[:cap(list)]) }

// spoilAll spoils whatever lists a plane gives out.
func spoilAll(p *plane.Plane) {
	stored, _ := p.Stored()
	cached, _, _ := p.Cached()
	row, due := p.Queued()
	expected := p.Expected()
	for _, h := range expected {
		spoil(h.Deletions)
	}
	spoil(stored)
	spoil(cached)
	spoil(row)
	spoil(due)
	spoil(expected)
}

// filled has something in each list.
func filled(t *testing.T) *plane.Plane {
	t.Helper()
	p := made(t, 20)
	client(t, p, makeSet("b", 1), makeSet("a", 1), makeSet("c", 1))
	pods(t, p, 1, 2, 1)
	deliver(t, p, 0, 6)
	for i := range 5 {
		p.Lay(hope(10-i, 1, 5, 6, 7))
		p.Queue().After(string(rune('f'-i)), 3)
	}
	client(t, p, scale("a", 2), dropPod("p4"))
	return p
}

// P2: who writes into a list, or behind it, writes into nobody else's.
func TestListsAreTheCallers(t *testing.T) {
	p := filled(t)
	want := seen(p)
	stored, version := p.Stored()
	cached, cachedVersion, listed := p.Cached()
	row, due := p.Queued()
	expected := p.Expected()
	spoilAll(p)
	if got := seen(p); got != want {
		t.Errorf("what came out was written into:\n%s\n%s", got, want)
	}
	if got := fmt.Sprintf("stored %+v %d; cached %+v %d %v; queued %q %v; expected %v; clock 0 0", stored, version, cached, cachedVersion, listed, row, due, expected); got != want {
		t.Errorf("two lists share memory:\n%s\n%s", got, want)
	}
	a, b := p.Do(api.Op{Kind: api.Read, N: 1}), p.Do(api.Op{Kind: api.Read, N: 1})
	spoil(a.Objects)
	c := p.Do(scale("b", 3))
	spoil(c.Objects)
	writes(t, p, api.Op{Kind: api.Read}, "a#2:2/0@7 b#1:3/0@9 c#3:1/0@3")
	if got := showAll(b.Objects); got != "p4<1.0!@8 p5<2.0@5 p6<1.0@6" {
		t.Errorf("two answers share memory: %s", got)
	}
	deliver(t, p, 9, 3)
	writes(t, p, api.Op{Kind: api.Read, N: 1}, "p4<1.0!@8 p5<2.0@5 p6<1.0@6")
}

// P2: within one answer, no two lists share memory.
func TestListsOfOneAnswerAreApart(t *testing.T) {
	p := filled(t)
	list := p.Expected()
	for i := range list {
		rest := append(list[i].Deletions, 99)
		spoil(rest)
		spoil(list[i].Deletions)
		for k := i + 1; k < len(list); k++ {
			if !slices.Equal(list[k].Deletions, []int{5, 6, 7}) {
				t.Fatalf("the deletions of %d changed with those of %d: %v", k, i, list[k].Deletions)
			}
		}
	}
}

// P2: no later call changes a list that came out.
func TestListsStay(t *testing.T) {
	p := filled(t)
	a := p.Do(api.Op{Kind: api.Read})
	stored, _ := p.Stored()
	cached, _, _ := p.Cached()
	row, due := p.Queued()
	expected := p.Expected()
	all := func() string { return fmt.Sprint(a, stored, cached, row, due, expected) }
	want := all()
	p.Lay(hope(1, 1, 4))
	p.Lay(hope(2, 1, 4, 5, 6))
	client(t, p, dropPod("p5"), dropPod("p6"), failPod("p6"), makeSet("x", 1), dropSet("a"))
	pods(t, p, 1, 1, 2)
	deliver(t, p, 3, 3)
	deliver(t, p, 3, 3)
	p.Queue().Take()
	for range 4 {
		does(t, p, api.Op{Kind: api.Tick}, 0)
	}
	deliver(t, p, 9, 4)
	raise(t, p, "b", 60)
	deliver(t, p, 9, 1)
	does(t, p, api.Op{Kind: api.Crash}, 0)
	if got := all(); got != want {
		t.Errorf("a later call changed a list:\n%s\n%s", got, want)
	}
}

// P2: planes know nothing of each other.
func TestPlanesAreApart(t *testing.T) {
	a, b := filled(t), made(t, 2)
	fresh := seen(b)
	client(t, a, makeSet("x", 1), api.Op{Kind: api.Tick})
	deliver(t, a, 9, 3)
	if got := seen(b); got != fresh {
		t.Errorf("a plane changed with another: %s", got)
	}
	was := seen(a)
	writes(t, b, makeSet("a", 8), "a#1:8/0@1")
	deliver(t, b, 9, 1)
	b.Lay(hope(10, 8))
	client(t, b, scale("a", 1), api.Op{Kind: api.Tick}, api.Op{Kind: api.Tick})
	client(t, b, api.Op{Kind: api.Crash})
	if got := seen(a); got != was {
		t.Errorf("a plane changed with another: %s", got)
	}
	if got := seen(made(t, 2)); got != fresh {
		t.Errorf("a plane began with what others did: %s", got)
	}
}

// P2: a name that is handed in may be a piece of a long text: the text is not kept, by whichever operation.
func TestTextsAreNotKept(t *testing.T) {
	for kind := range 13 {
		for n := range 2 {
			p := made(t, 9)
			if n > 0 {
				client(t, p, makeSet("a", 0))
				deliver(t, p, 0, 1)
			}
			text := handPieces(p, uint8(kind), n)
			deliver(t, p, 9, deliverable(p))
			runtime.GC()
			if text.Value() != nil {
				t.Errorf("the operation %d keeps the caller's text", kind)
			}
			runtime.KeepAlive(p)
		}
	}
}

// deliverable: how many notices are to come.
func deliverable(p *plane.Plane) int {
	stored, version := p.Stored()
	_, at, listed := p.Cached()
	if !listed {
		return len(stored)
	}
	return version - at
}

// handPieces does an operation with the name a, twice, as a piece of a long text that nobody else has.
func handPieces(p *plane.Plane, kind uint8, n int) weak.Pointer[byte] {
	text := []byte(strings.Repeat("a", 1<<12))
	p.Do(api.Op{Kind: kind, Name: unsafe.String(&text[0], 1), N: n})
	p.Do(api.Op{Kind: kind, Name: unsafe.String(&text[0], 1), N: n})
	return weak.Make(&text[0])
}

// left counts the goroutines, beside the one that asks, that are still in a plane.
func left() int {
	text := make([]byte, 1<<20)
	text = text[:runtime.Stack(text, true)]
	n := 0
	for i, g := range strings.Split(string(text), "\n\n") {
		if i > 0 && strings.Contains(g, "tender/plane.") {
			n++
		}
	}
	return n
}

// Ways, P11: when Do has answered, nobody sends or waits any more.
func TestNobodyIsLeft(t *testing.T) {
	p := filled(t)
	for _, n := range []int{1, 0, 9, -1, 9} {
		p.Do(api.Op{Kind: api.Deliver, N: n})
	}
	raise(t, p, "a", 60)
	deliver(t, p, 1, 1)
	client(t, p, api.Op{Kind: api.Crash})
	deliver(t, p, 0, 6)
	raise(t, p, "b", 70)
	deliver(t, p, 3, 3)
	// Who has closed the channel may need a moment to end; who waits never ends.
	for deadline := time.Now().Add(5 * time.Second); left() > 0; runtime.Gosched() {
		if time.Now().After(deadline) {
			t.Fatalf("%d goroutines are left", left())
		}
	}
}

// Ways: planes may be driven side by side, each from a goroutine of its own, and answer as alone.
func TestSideBySide(t *testing.T) {
	want := driven()
	answers := make(chan string)
	for range 8 {
		go func() { answers <- driven() }()
	}
	for range 8 {
		if got := <-answers; got != want {
			t.Errorf("a plane answered otherwise beside others:\n%s\n%s", got, want)
		}
	}
}

func driven() string {
	p, _ := plane.New(api.Config{Limit: 30, Burst: 2, Timeout: 3})
	r := rand.New(rand.NewPCG(5, 5))
	text := ""
	for range 300 {
		text += fmt.Sprint(p.Do(anyOp(r)))
	}
	return text + seen(p)
}

// pick takes one of a list, most often of its front, where the likely ones stand.
func pick[T any](r *rand.Rand, list ...T) T { return list[r.IntN(1+r.IntN(len(list)))] }

// anyOp is any operation, most often a right one; or one of no kind.
func anyOp(r *rand.Rand) api.Op {
	kinds := []uint8{api.Sync, api.Deliver, api.Node, api.Scale, api.Tick, api.MakeSet, api.DropPod, api.FailPod, api.DropSet, api.Read}
	op := api.Op{Kind: pick(r, kinds...)}
	switch r.IntN(60) {
	case 0:
		op.Kind = api.Crash
	case 1:
		op.Kind = pick(r, api.None, 12, 128, 255)
	}
	op.Name = pick(r, "a", "b", "c", "d", "eightlet", "", "A", "ninechars", "p2", "\xff")
	if op.Kind == api.DropPod || op.Kind == api.FailPod {
		op.Name = podName(r.IntN(60))
	}
	op.N = pick(r, 1, 2, 0, 3, 5, 8, 20, 9, -1, 256, least, most)
	op.Version = pick(r, 0, 0, 0, 0, 0, 1, r.IntN(60), -1, least, most)
	return op
}

// walk drives a plane any way, and a model beside it.
type walk struct {
	*testing.T
	r *rand.Rand
	p *plane.Plane
	m *model
}

func newWalk(t *testing.T, seed uint64) *walk {
	r := rand.New(rand.NewPCG(seed, 3))
	c := api.Config{Limit: 1 + int(seed)%8*9, Burst: 1 + r.IntN(4), Timeout: pick(r, 1, 2, 3, 5, 9, 40)}
	return &walk{T: t, r: r, p: madeOf(t, c), m: newModel(c)}
}

// do does an operation, and holds the answer and all that is told against what the model says.
func (w *walk) do(op api.Op) {
	w.Helper()
	got, want := w.p.Do(op), w.m.do(op)
	if got.Err != want.Err || got.Did != want.Did || !slices.Equal(got.Objects, want.Objects) {
		w.Fatalf("Do(%+v) = %+v, want %+v", op, got, want)
	}
	spoil(got.Objects)
	w.compare(op)
}

func (w *walk) compare(behind any) {
	w.Helper()
	if !w.m.isLike(w.p) {
		w.Fatalf("behind %+v a plane is\n%s\nand should be\n%s", behind, seen(w.p), w.m.seen())
	}
	spoilAll(w.p)
}

// meddle brings a plane to where no operation brings it: pods that nobody asked for, and hopes of any kind.
func (w *walk) meddle() {
	w.Helper()
	if w.r.IntN(2) == 0 {
		o := api.Object{Kind: api.Pod, Owner: 1 + w.r.IntN(1+len(w.m.events)), Phase: uint8(w.r.IntN(3))}
		w.p.Store().Create(o)
		w.m.create(o)
	} else {
		w.lay()
	}
	w.compare("meddling")
}

// lay lays hopes, most often for a set and for pods that there are.
func (w *walk) lay() {
	sets, _ := w.p.Store().List(api.Set)
	h := api.Hope{Uid: 1 + w.r.IntN(20), Creations: w.r.IntN(4), At: w.m.clock}
	if len(sets) > 0 && w.r.IntN(5) > 0 {
		h.Uid = sets[w.r.IntN(len(sets))].Uid
	}
	list, _ := w.p.Store().List(api.Pod)
	for _, o := range list {
		if o.Owner == h.Uid && w.r.IntN(2) == 0 {
			h.Deletions = append(h.Deletions, o.Uid)
		}
	}
	if h.Creations > 0 || len(h.Deletions) > 0 {
		w.p.Lay(h)
		w.m.lay(h)
	}
}

// P1, P2, P10 to P16: whatever is done, a plane is what the document says, and lists that were written over are nobody else's.
func TestAnyCalls(t *testing.T) {
	for seed := range uint64(80) {
		t.Run(fmt.Sprint(seed), func(t *testing.T) {
			w := newWalk(t, seed)
			for range 500 {
				w.do(anyOp(w.r))
			}
		})
	}
}

// P1, P2, P10 to P16: so it is where there are pods and hopes of any kind, too.
func TestAnyCallsWithMeddling(t *testing.T) {
	for seed := range uint64(80) {
		t.Run(fmt.Sprint(seed), func(t *testing.T) {
			w := newWalk(t, 1000+seed)
			for range 400 {
				if w.r.IntN(8) == 0 {
					w.meddle()
				}
				w.do(anyOp(w.r))
			}
		})
	}
}

// P1, P14, P15: so it is when the versions run out, whatever is begun then.
func TestAnyCallsAtTheLastVersions(t *testing.T) {
	for seed := range uint64(80) {
		t.Run(fmt.Sprint(seed), func(t *testing.T) {
			w := newWalk(t, 2000+seed)
			w.do(makeSet("z", 0))
			for range 100 {
				w.do(anyOp(w.r))
			}
			for n := 1; len(w.m.events) < 580+w.r.IntN(20); n++ {
				w.do(scale("z", n%2))
			}
			for range 100 {
				w.do(anyOp(w.r))
			}
		})
	}
}

// P1, P2: whatever bytes are decoded and done, nothing panics, errors tell nothing else and change nothing, and another plane answers the same.
func TestAnyBytes(t *testing.T) {
	for seed := range uint64(60) {
		r := rand.New(rand.NewPCG(seed, 4))
		bytes := make([]byte, 4*250+r.IntN(4))
		for i := range bytes {
			bytes[i] = byte(r.IntN(256))
			if i%4 == 0 || r.IntN(3) > 0 {
				bytes[i] = byte(r.IntN(13))
			}
		}
		c := api.Config{Limit: 9, Burst: 1 + r.IntN(4), Timeout: 1 + r.IntN(40)}
		p, q := madeOf(t, c), madeOf(t, c)
		for _, op := range plane.Decode(string(bytes)) {
			before := seen(p)
			a, b := p.Do(op), q.Do(op)
			after := seen(p)
			if fmt.Sprint(a) != fmt.Sprint(b) || after != seen(q) {
				t.Fatalf("seed %d: another plane answered %+v otherwise: %+v, %+v", seed, op, a, b)
			}
			if a.Err != api.OK && (after != before || a.Did != 0 || len(a.Objects) != 0) {
				t.Fatalf("seed %d: Do(%+v) = %+v, and changed\n%s\ninto\n%s", seed, op, a, before, after)
			}
		}
	}
}
