package plane_test

import (
	"fmt"
	"math/rand/v2"
	"slices"
	"testing"

	"tender/api"
	"tender/plane"
)

// watch drives a plane, and sees behind each step to what follows of the promises.
type watch struct {
	*testing.T
	p        *plane.Plane
	config   api.Config
	store    *history
	most     map[int]int // by the Uids of sets: the greatest Replicas ever
	timeouts map[int]int // by the Uids of sets
	version  int         // of the cache
}

func watched(t *testing.T, c api.Config) *watch {
	return &watch{T: t, p: madeOf(t, c), config: c, store: newHistory(c.Limit), most: map[int]int{}, timeouts: map[int]int{}}
}

func (w *watch) do(op api.Op) api.Answer {
	w.Helper()
	expected := w.p.Expected()
	a := w.p.Do(op)
	if op.Kind == api.Tick {
		w.countTimeouts(expected, a.Did)
	}
	events, err := w.p.Store().Since(len(w.store.events), 99)
	if err != api.OK {
		w.Fatalf("Do(%+v) left more events than are kept", op)
	}
	for _, e := range events {
		w.seeStatus(op, e)
		w.store.learn(e)
		w.neverTooMany(e)
	}
	w.echo(op)
	return a
}

// countTimeouts: whichever hopes a Tick has forgotten ran out.
func (w *watch) countTimeouts(before []api.Hope, did int) {
	w.Helper()
	after := w.p.Expected()
	for _, h := range before {
		if !slices.ContainsFunc(after, func(o api.Hope) bool { return o.Uid == h.Uid }) {
			w.timeouts[h.Uid]++
			did--
		}
	}
	if did != 0 {
		w.Fatalf("a Tick told %d timeouts too many", did)
	}
}

// neverTooMany is P17.
func (w *watch) neverTooMany(e api.Event) {
	w.Helper()
	o := e.Object
	if o.Kind == api.Set {
		w.most[o.Uid] = max(w.most[o.Uid], o.Replicas)
		return
	}
	live := len(livePods(w.store.now(), o.Owner))
	if bound := w.most[o.Owner] + w.config.Burst*w.timeouts[o.Owner]; live > bound {
		w.Fatalf("%d pods of %d live, and %d at most may: %s", live, o.Owner, bound, showAll(w.store.now()))
	}
}

// seeStatus is P19: of a Status that a Sync writes.
func (w *watch) seeStatus(op api.Op, e api.Event) {
	w.Helper()
	was, _ := find(w.store.now(), e.Object)
	if e.Object.Kind != api.Set || e.Object.Status == was.Status {
		return
	}
	_, version, _ := w.p.Cached()
	if live := len(livePods(w.store.at(version), e.Object.Uid)); op.Kind != api.Sync || e.Object.Status != live || e.Object.Replicas != was.Replicas {
		w.Fatalf("Do(%+v) wrote %s, and %d lived at version %d", op, show(e.Object), live, version)
	}
}

// echo is P19: of the cache.
func (w *watch) echo(op api.Op) {
	w.Helper()
	list, version, listed := w.p.Cached()
	if listed && !slices.Equal(list, w.store.at(version)) || !listed && (len(list) > 0 || version != 0) {
		w.Fatalf("Do(%+v) left %s in the cache at version %d, where the store had %s", op, showAll(list), version, showAll(w.store.at(version)))
	}
	if version < w.version && op.Kind != api.Crash {
		w.Fatalf("Do(%+v) turned the cache from version %d to %d", op, w.version, version)
	}
	w.version = version
}

// until does an operation until it does nothing.
func (w *watch) until(kind uint8) {
	w.Helper()
	for range 1000 {
		if w.do(api.Op{Kind: kind}).Did == 0 {
			return
		}
	}
	w.Fatalf("there is no end of %d", kind)
}

// rounds are as P18 says.
func (w *watch) rounds(n int) {
	w.Helper()
	for i := range n {
		w.do(api.Op{Kind: api.Deliver, N: most})
		w.until(api.Sync)
		w.until(api.Node)
		w.do(api.Op{Kind: api.Deliver, N: most})
		w.until(api.Sync)
		w.do(api.Op{Kind: api.Tick})
		w.do(api.Op{Kind: api.Read, N: i % 2})
	}
}

// atTheEnd is P18: there are as many as there shall be.
func (w *watch) atTheEnd() {
	w.Helper()
	list, _ := w.p.Stored()
	for _, set := range list {
		if set.Kind != api.Set {
			continue
		}
		live := livePods(list, set.Uid)
		if len(live) != set.Replicas || set.Status != set.Replicas {
			w.Fatalf("%d live: %s", len(live), showAll(list))
		}
		for _, pod := range live {
			if pod.Phase != api.Running {
				w.Fatalf("%s does not run", show(pod))
			}
		}
	}
}

// theEnd is P18, and tells whether it could be seen: no write may be refused for want of room or versions.
func (w *watch) theEnd() bool {
	w.Helper()
	from := len(w.store.states)
	w.rounds(100)
	for _, list := range w.store.states[from-1:] {
		if len(list) == w.config.Limit || len(w.store.events) == 600 {
			return false
		}
	}
	w.atTheEnd()
	_, version := w.p.Stored()
	w.rounds(45)
	if _, later := w.p.Stored(); later != version {
		w.Fatalf("it did not stay so: version %d, and then %d", version, later)
	}
	w.atTheEnd()
	return true
}

// anyStep is what may come at any time, more often what a controller and its clients do than a Crash.
func anyStep(r *rand.Rand, ticking bool) api.Op {
	kinds := []uint8{api.Sync, api.Deliver, api.Sync, api.Deliver, api.Node, api.Sync, api.Deliver, api.Scale, api.Node, api.FailPod, api.DropPod, api.MakeSet, api.DropSet, api.Crash}
	op := api.Op{Kind: kinds[r.IntN(len(kinds))], Name: pick(r, "a", "b", "c"), N: r.IntN(9)}
	switch {
	case ticking && r.IntN(6) == 0:
		op.Kind = api.Tick
	case op.Kind == api.DropPod, op.Kind == api.FailPod:
		op.Name = podName(r.IntN(40))
	case op.Kind == api.Deliver:
		op.N = pick(r, 1, 2, 0, 3, 5, 99)
	case op.Kind == api.DropSet, op.Kind == api.Crash:
		if r.IntN(3) > 0 {
			op = api.Op{Kind: api.Sync}
		}
	}
	return op
}

// P17, P18, P19: whatever comes, and however late.
func TestWhatFollows(t *testing.T) {
	for _, ticking := range []bool{false, true} {
		ended := 0
		for seed := range uint64(100) {
			t.Run(fmt.Sprint(ticking, seed), func(t *testing.T) {
				r := rand.New(rand.NewPCG(seed, 6))
				c := api.Config{Limit: pick(r, 64, 64, 64, 40, 12), Burst: 1 + r.IntN(4), Timeout: 40}
				if ticking {
					c.Timeout = pick(r, 1, 2, 4, 10, 40)
				}
				w := watched(t, c)
				for range 150 {
					w.do(anyStep(r, ticking))
				}
				if _, timeouts := w.p.Clock(); timeouts > 0 && !ticking {
					t.Errorf("there were %d timeouts", timeouts)
				}
				if w.theEnd() {
					ended++
				}
			})
		}
		if ended < 60 {
			t.Errorf("of 100 only %d came to an end that could be seen", ended)
		}
	}
}

// P17: where nothing is delivered, nothing more is created, however often it is looked at, and whoever crashes.
func TestNeverTooManyUnseen(t *testing.T) {
	for burst := 1; burst <= 4; burst++ {
		w := watched(t, api.Config{Limit: 64, Burst: burst, Timeout: 40})
		w.do(makeSet("a", 8))
		w.do(api.Op{Kind: api.Deliver})
		for range 30 {
			w.p.Queue().Add("a")
			w.until(api.Sync)
		}
		if list, _ := w.p.Stored(); len(list) != 1+burst {
			t.Errorf("Burst %d: %s", burst, showAll(list))
		}
		for range 30 {
			w.do(api.Op{Kind: api.Crash})
			w.do(api.Op{Kind: api.Deliver})
			w.until(api.Sync)
		}
		if list, _ := w.p.Stored(); len(list) != 9 {
			t.Errorf("Burst %d: %s", burst, showAll(list))
		}
	}
}

// P17: each timeout may bring as many more as Burst says, and in the end they go.
func TestTooManyByTimeouts(t *testing.T) {
	w := watched(t, api.Config{Limit: 64, Burst: 3, Timeout: 1})
	w.do(makeSet("a", 3))
	w.do(api.Op{Kind: api.Deliver})
	for range 4 {
		w.until(api.Sync)
		w.do(api.Op{Kind: api.Tick})
	}
	if list, _ := w.p.Stored(); len(list) != 1+4*3 {
		t.Errorf("Stored() = %s", showAll(list))
	}
	if !w.theEnd() {
		t.Error("there was no end")
	}
}

// P18: creations that nobody sees, as the pods were gone before the cache was listed anew, do not hold up a set for ever.
func TestTheEndOfWhatIsNeverSeen(t *testing.T) {
	w := watched(t, api.Config{Limit: 64, Burst: 2, Timeout: 40})
	for _, op := range []api.Op{makeSet("a", 5), {Kind: api.Deliver}, {Kind: api.Sync}, dropPod("p2"), dropPod("p3"), {Kind: api.Node}, {Kind: api.Node}} {
		w.do(op)
	}
	w.do(makeSet("z", 0))
	for i := range 20 {
		w.do(scale("z", 1+i%2))
	}
	w.rounds(39)
	expects(t, w.p, hopeAt(0, 1, 2))
	if list, _ := w.p.Stored(); len(livePods(list, 1)) != 0 {
		t.Errorf("Stored() = %s", showAll(list))
	}
	if !w.theEnd() {
		t.Error("there was no end")
	}
	clocked(t, w.p, 39+145, 1)
}

// P18: of many sets, which leave more events in a round than are kept.
func TestTheEndOfManySets(t *testing.T) {
	for burst := 1; burst <= 4; burst++ {
		w := watched(t, api.Config{Limit: 64, Burst: burst, Timeout: 40})
		for i, name := range []string{"a", "b", "c", "d", "e", "f", "g"} {
			w.do(makeSet(name, 2+i))
		}
		if !w.theEnd() {
			t.Error("there was no end")
		}
		for i, name := range []string{"a", "b", "c", "d", "e", "f", "g"} {
			w.do(scale(name, 8-i))
		}
		if !w.theEnd() {
			t.Error("there was no end")
		}
	}
}
