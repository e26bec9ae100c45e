package store_test

import (
	"math/rand/v2"
	"slices"
	"testing"
	"unsafe"

	"tender/api"
	"tender/store"
)

// P2: who writes into a list, or behind it, writes into nobody else's.
func TestListsAreTheCallers(t *testing.T) {
	s := made(t, 64)
	for _, n := range []string{"a", "b", "c"} {
		create(t, s, set(n, 1, 0), pod(1))
	}
	before, other := seen(t, s), seen(t, s)
	spoil(before.sets)
	spoil(before.pods)
	spoil(before.events)
	if after := seen(t, s); !same(after, other) {
		t.Errorf("what came out was written into:\n%+v\n%+v", after, other)
	}
	kept := slices.Clone(other.sets)
	s.Update(set("b", 7, 7))
	s.Remove(api.Set, "a", 0)
	if !slices.Equal(other.sets, kept) {
		t.Errorf("a later call changed a list: %+v", other.sets)
	}
	events, _ := s.Since(6, 9)
	keptEvents := slices.Clone(events)
	raiseBy(s, "c", 40)
	if !slices.Equal(events, keptEvents) {
		t.Errorf("a later call changed a list: %+v", events)
	}
}

// spoil writes zero values into a list and into its spare room.
func spoil[T any](list []T) { clear(list[:cap(list)]) }

func raiseBy(s *store.Store, name string, n int) {
	for i := range n {
		s.Update(set(name, 2+i%2, 0))
	}
}

// P2: a name that is handed in may be a piece of a long text: the text is not kept.
func TestNamesAreNotKept(t *testing.T) {
	text := string([]byte("webandmuchmore"))
	s := made(t, 1)
	o, _ := s.Create(set(text[:3], 1, 0))
	if o.Name != "web" || unsafe.StringData(o.Name) == unsafe.StringData(text) {
		t.Errorf("the store keeps %q in the caller's memory", o.Name)
	}
}

// P2: stores know nothing of each other.
func TestStoresAreApart(t *testing.T) {
	a, b := made(t, 2), made(t, 3)
	create(t, a, set("x", 1, 0), pod(1))
	create(t, b, set("y", 2, 0))
	refuses(t, b, "Get of the other's", api.ErrMissing, func() (api.Object, api.Errno) { return b.Get(api.Set, "x") })
	was := seen(t, b)
	raiseBy(a, "x", 40)
	if !same(seen(t, b), was) {
		t.Errorf("a store changed with another: %+v", seen(t, b))
	}
	o, err := b.Create(pod(1))
	answers(t, "Create", o, err, api.Object{Kind: api.Pod, Name: "p2", Uid: 2, Version: 2, Owner: 1})
}

// step is a call with its answers.
type step struct {
	object api.Object
	list   []api.Object
	events []api.Event
	number int
	err    api.Errno
}

func equal(a, b step) bool {
	return a.object == b.object && a.number == b.number && a.err == b.err && slices.Equal(a.list, b.list) && slices.Equal(a.events, b.events)
}

// pick takes one of a list, most often of its front, where the likely ones stand.
func pick[T any](r *rand.Rand, list ...T) T { return list[r.IntN(1+r.IntN(len(list)))] }

func anyNumber(r *rand.Rand) int { return pick(r, 0, 1, 2, 3, 8, 9, 64, 65, -1, most, least) }

func anyNew(r *rand.Rand) api.Object {
	switch r.IntN(3) {
	case 0:
		return api.Object{Kind: api.Pod, Owner: 1 + r.IntN(3), Phase: uint8(r.IntN(3))}
	case 1:
		return set(pick(r, "a", "b", "c", "d", "eightlet"), r.IntN(9), r.IntN(65))
	}
	return anyObject(r)
}

func anyObject(r *rand.Rand) api.Object {
	return api.Object{
		Kind:     pick(r, api.Set, api.Pod, 2, 255),
		Name:     pick(r, "a", "p2", "", "p02", "ninechars", "\xff\x00", "A"),
		Uid:      anyNumber(r),
		Version:  anyNumber(r),
		Replicas: anyNumber(r),
		Status:   anyNumber(r),
		Owner:    anyNumber(r),
		Phase:    uint8(anyNumber(r)),
		Gone:     r.IntN(2) == 0,
	}
}

// anyOf is most often like an object of the store, with a field or two turned.
func anyOf(r *rand.Rand, s *store.Store) api.Object {
	list, _ := s.List(uint8(r.IntN(2)))
	if len(list) == 0 || r.IntN(8) == 0 {
		return anyObject(r)
	}
	o := list[r.IntN(len(list))]
	o.Version = pick(r, 0, o.Version, anyNumber(r))
	o.Uid = pick(r, 0, o.Uid, anyNumber(r))
	o.Replicas = pick(r, o.Replicas, r.IntN(9), anyNumber(r))
	o.Phase = pick(r, o.Phase, uint8(r.IntN(3)), 3)
	return o
}

func anyStep(r *rand.Rand, s *store.Store) step {
	var p step
	o := anyOf(r, s)
	switch r.IntN(8) {
	case 0, 1:
		p.object, p.err = s.Create(anyNew(r))
	case 2:
		p.object, p.err = s.Update(o)
	case 3:
		p.object, p.err = s.Mark(o.Name)
	case 4:
		p.object, p.err = s.Remove(o.Kind, o.Name, o.Version)
	case 5:
		p.object, p.err = s.Get(o.Kind, o.Name)
	case 6:
		p.list, p.number = s.List(o.Kind)
	case 7:
		_, now := s.List(api.Set)
		p.events, p.err = s.Since(pick(r, now, now-3, now-16, now-17, anyNumber(r)), anyNumber(r))
	}
	return p
}

// mirror follows a store by its events alone.
type mirror []api.Object

func (m mirror) with(e api.Event) mirror {
	m = slices.DeleteFunc(m, func(o api.Object) bool { return o.Kind == e.Object.Kind && o.Name == e.Object.Name })
	if e.Sort != api.Deleted {
		m = append(m, e.Object)
	}
	return m
}

func (m mirror) is(v view) bool {
	n := 0
	for _, o := range append(slices.Clone(v.sets), v.pods...) {
		if slices.Contains(m, o) {
			n++
		}
	}
	return n == len(m) && n == len(v.sets)+len(v.pods)
}

// agrees: with an error there is nothing else and nothing changes, and a change costs one version and leaves one event.
func agrees(p step, before, after view) bool {
	if p.err != api.OK && !equal(p, step{err: p.err}) {
		return false
	}
	if same(before, after) {
		return true
	}
	last := after.events[len(after.events)-1].Object
	return p.err == api.OK && after.version == before.version+1 && last.Version == after.version && last == p.object
}

// P1, P2: whatever is called, no call panics, errors change nothing, the events tell all that changes, and the same calls answer the same on another store.
func TestAnyCalls(t *testing.T) {
	met := map[api.Errno]int{}
	for seed := range uint64(24) {
		limit := 1 + int(seed)%8*9
		a, b := made(t, limit), made(t, limit)
		r, q := rand.New(rand.NewPCG(seed, 1)), rand.New(rand.NewPCG(seed, 1))
		var m mirror
		for range 2500 {
			before := seen(t, a)
			p := anyStep(r, a)
			after := seen(t, a)
			if !equal(p, anyStep(q, b)) {
				t.Fatalf("seed %d: another store answered otherwise than %+v", seed, p)
			}
			if !agrees(p, before, after) {
				t.Fatalf("seed %d: %+v came with a change of\n%+v into\n%+v", seed, p, before, after)
			}
			if after.version != before.version {
				m = m.with(after.events[len(after.events)-1])
			}
			if !m.is(after) || len(m) > limit {
				t.Fatalf("seed %d: the store is %+v, its events say %+v", seed, after, m)
			}
			met[p.err]++
		}
	}
	for err := api.OK; err <= api.ErrOld; err++ {
		if met[err] == 0 {
			t.Errorf("no call answered %d: the calls reach too little", err)
		}
	}
}
