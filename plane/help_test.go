package plane_test

import (
	"fmt"
	"slices"
	"strings"
	"testing"

	"tender/api"
	"tender/plane"
)

// least and most: the numbers at the ends of int.
const (
	most  = int(^uint(0) >> 1)
	least = -most - 1
)

func made(t *testing.T, limit int) *plane.Plane {
	t.Helper()
	return madeOf(t, api.Config{Limit: limit, Burst: 1, Timeout: 40})
}

func madeOf(t *testing.T, c api.Config) *plane.Plane {
	t.Helper()
	p, err := plane.New(c)
	if p == nil || err != api.OK {
		t.Fatalf("New(%+v) = %v, %d", c, p, err)
	}
	return p
}

// show writes an object shortly: a set as name#Uid:Replicas/Status@Version, a pod as name<Owner.Phase@Version, with ! if it is Gone.
func show(o api.Object) string {
	if o.Kind == api.Set {
		return fmt.Sprintf("%s#%d:%d/%d@%d", o.Name, o.Uid, o.Replicas, o.Status, o.Version)
	}
	gone := ""
	if o.Gone {
		gone = "!"
	}
	return fmt.Sprintf("%s<%d.%d%s@%d", o.Name, o.Owner, o.Phase, gone, o.Version)
}

func showAll(list []api.Object) string {
	var words []string
	for _, o := range list {
		words = append(words, show(o))
	}
	return strings.Join(words, " ")
}

// seen writes down all that can be seen of a plane; a list of length 0 looks as nil does.
func seen(p *plane.Plane) string {
	stored, version := p.Stored()
	cached, cachedVersion, listed := p.Cached()
	row, due := p.Queued()
	clock, timeouts := p.Clock()
	return fmt.Sprintf("stored %+v %d; cached %+v %d %v; queued %q %v; expected %v; clock %d %d", stored, version, cached, cachedVersion, listed, row, due, p.Expected(), clock, timeouts)
}

// does does an operation that tells how many things it did.
func does(t *testing.T, p *plane.Plane, op api.Op, did int) {
	t.Helper()
	if a := p.Do(op); a.Err != api.OK || a.Did != did || len(a.Objects) != 0 {
		t.Errorf("Do(%+v) = %+v, want Did %d", op, a, did)
	}
}

func deliver(t *testing.T, p *plane.Plane, n, did int) {
	t.Helper()
	does(t, p, api.Op{Kind: api.Deliver, N: n}, did)
}

// syncs, nodes and ticks: once for each of what they do.

func syncs(t *testing.T, p *plane.Plane, did ...int) {
	t.Helper()
	for _, d := range did {
		does(t, p, api.Op{Kind: api.Sync}, d)
	}
}

func nodes(t *testing.T, p *plane.Plane, did ...int) {
	t.Helper()
	for _, d := range did {
		does(t, p, api.Op{Kind: api.Node}, d)
	}
}

func ticks(t *testing.T, p *plane.Plane, did ...int) {
	t.Helper()
	for _, d := range did {
		does(t, p, api.Op{Kind: api.Tick}, d)
	}
}

// writes does an operation that tells the object.
func writes(t *testing.T, p *plane.Plane, op api.Op, want string) {
	t.Helper()
	if a := p.Do(op); a.Err != api.OK || a.Did != 0 || showAll(a.Objects) != want {
		t.Errorf("Do(%+v) = %+v, want %s", op, a, want)
	}
}

// client does operations of clients, all of which are right.
func client(t *testing.T, p *plane.Plane, ops ...api.Op) {
	t.Helper()
	for _, op := range ops {
		if a := p.Do(op); a.Err != api.OK {
			t.Fatalf("Do(%+v) = %+v", op, a)
		}
	}
}

func makeSet(name string, n int) api.Op { return api.Op{Kind: api.MakeSet, Name: name, N: n} }

func scale(name string, n int) api.Op { return api.Op{Kind: api.Scale, Name: name, N: n} }

func dropSet(name string) api.Op { return api.Op{Kind: api.DropSet, Name: name} }

func dropPod(name string) api.Op { return api.Op{Kind: api.DropPod, Name: name} }

func failPod(name string) api.Op { return api.Op{Kind: api.FailPod, Name: name} }

// refuses: the operation tells the error and nothing else, and changes nothing.
func refuses(t *testing.T, p *plane.Plane, op api.Op, want api.Errno) {
	t.Helper()
	before := seen(p)
	if a := p.Do(op); a.Err != want || a.Did != 0 || len(a.Objects) != 0 {
		t.Errorf("Do(%+v) = %+v, want %d", op, a, want)
	}
	if after := seen(p); after != before {
		t.Errorf("Do(%+v) changed\n%s\ninto\n%s", op, before, after)
	}
}

// pods creates pods, one for each owner, as a controller does.
func pods(t *testing.T, p *plane.Plane, owners ...int) {
	t.Helper()
	for _, owner := range owners {
		if _, err := p.Store().Create(api.Object{Kind: api.Pod, Owner: owner}); err != api.OK {
			t.Fatalf("Create of a pod of %d: %d", owner, err)
		}
	}
}

// removes takes a pod away, as a node does.
func removes(t *testing.T, p *plane.Plane, name string) {
	t.Helper()
	if _, err := p.Store().Remove(api.Pod, name, 0); err != api.OK {
		t.Fatalf("Remove of %s: %d", name, err)
	}
}

// raise brings the store to a version by scaling a set to 0 and 1.
func raise(t *testing.T, p *plane.Plane, name string, version int) {
	t.Helper()
	for {
		o, err := p.Store().Get(api.Set, name)
		_, now := p.Stored()
		if err != api.OK || now > version {
			t.Fatalf("no way to the version %d: %d, %d", version, err, now)
		}
		if now == version {
			return
		}
		client(t, p, scale(name, 1-min(o.Replicas, 1)))
	}
}

func stored(t *testing.T, p *plane.Plane, want string, version int) {
	t.Helper()
	if list, v := p.Stored(); showAll(list) != want || v != version {
		t.Errorf("Stored() = %q, %d, want %q, %d", showAll(list), v, want, version)
	}
}

func cached(t *testing.T, p *plane.Plane, want string, version int) {
	t.Helper()
	if list, v, listed := p.Cached(); showAll(list) != want || v != version || !listed {
		t.Errorf("Cached() = %q, %d, %v, want %q, %d, true", showAll(list), v, listed, want, version)
	}
}

func isUnlisted(t *testing.T, p *plane.Plane) {
	t.Helper()
	if list, v, listed := p.Cached(); len(list) != 0 || v != 0 || listed {
		t.Errorf("Cached() = %+v, %d, %v, want it unlisted", list, v, listed)
	}
}

// waits: these keys wait, and none is due.
func waits(t *testing.T, p *plane.Plane, row ...string) {
	t.Helper()
	if got, due := p.Queued(); !slices.Equal(got, row) || len(due) != 0 {
		t.Errorf("Queued() = %q, %v, want %q", got, due, row)
	}
}

// isDue: these keys wait, and these are due.
func isDue(t *testing.T, p *plane.Plane, row []string, due ...api.Due) {
	t.Helper()
	if gotRow, gotDue := p.Queued(); !slices.Equal(gotRow, row) || !slices.Equal(gotDue, due) {
		t.Errorf("Queued() = %q, %v, want %q, %v", gotRow, gotDue, row, due)
	}
}

// clocked: the clock, and how many timeouts there were.
func clocked(t *testing.T, p *plane.Plane, clock, timeouts int) {
	t.Helper()
	if c, n := p.Clock(); c != clock || n != timeouts {
		t.Errorf("Clock() = %d, %d, want %d, %d", c, n, clock, timeouts)
	}
}

// empties takes all keys that wait, and is done with them.
func empties(p *plane.Plane) {
	for key, ok := p.Queue().Take(); ok; key, ok = p.Queue().Take() {
		p.Queue().Done(key)
	}
}

func expects(t *testing.T, p *plane.Plane, want ...api.Hope) {
	t.Helper()
	if got := p.Expected(); fmt.Sprint(got) != fmt.Sprint(want) {
		t.Errorf("Expected() = %v, want %v", got, want)
	}
}

// hope: so many creations and these deletions, laid at the tick 7.
func hope(uid, creations int, deletions ...int) api.Hope {
	return hopeAt(7, uid, creations, deletions...)
}

func hopeAt(tick, uid, creations int, deletions ...int) api.Hope {
	return api.Hope{Uid: uid, Creations: creations, Deletions: deletions, At: tick}
}
