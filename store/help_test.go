package store_test

import (
	"slices"
	"testing"

	"tender/api"
	"tender/store"
)

// least and most: the numbers at the ends of int.
const (
	most  = int(^uint(0) >> 1)
	least = -most - 1
)

func made(t *testing.T, limit int) *store.Store {
	t.Helper()
	s, err := store.New(limit)
	if s == nil || err != api.OK {
		t.Fatalf("New(%d) = %v, %d", limit, s, err)
	}
	return s
}

func set(name string, replicas, status int) api.Object {
	return api.Object{Kind: api.Set, Name: name, Replicas: replicas, Status: status}
}

func pod(owner int) api.Object { return api.Object{Kind: api.Pod, Owner: owner} }

func create(t *testing.T, s *store.Store, list ...api.Object) {
	t.Helper()
	for _, o := range list {
		if _, err := s.Create(o); err != api.OK {
			t.Fatalf("Create(%+v): %d", o, err)
		}
	}
}

// raise brings a store to a version by updates of its set "a", which has Replicas 0 or 1 then.
func raise(t *testing.T, s *store.Store, version int) {
	t.Helper()
	_, now := s.List(api.Set)
	for v := now + 1; v <= version; v++ {
		a, _ := s.Get(api.Set, "a")
		if o, err := s.Update(set("a", 1-a.Replicas, a.Status)); err != api.OK || o.Version != v {
			t.Fatalf("Update = %+v, %d, want the version %d", o, err, v)
		}
	}
}

// view is all that can be seen of a store.
type view struct {
	sets, pods []api.Object
	events     []api.Event
	version    int
}

func seen(t *testing.T, s *store.Store) view {
	t.Helper()
	var v view
	v.sets, v.version = s.List(api.Set)
	v.pods, _ = s.List(api.Pod)
	var err api.Errno
	v.events, err = s.Since(max(0, v.version-api.MaxLog), api.MaxLog)
	if err != api.OK {
		t.Fatalf("Since of the last events: %d", err)
	}
	return v
}

func same(a, b view) bool {
	return a.version == b.version && slices.Equal(a.sets, b.sets) && slices.Equal(a.pods, b.pods) && slices.Equal(a.events, b.events)
}

// answers holds what a call told against what it should have.
func answers(t *testing.T, what string, o api.Object, err api.Errno, want api.Object) {
	t.Helper()
	if o != want || err != api.OK {
		t.Errorf("%s = %+v, %d, want %+v, 0", what, o, err, want)
	}
}

// refuses: the call tells the error and nothing else, and changes nothing.
func refuses(t *testing.T, s *store.Store, what string, want api.Errno, call func() (api.Object, api.Errno)) {
	t.Helper()
	before := seen(t, s)
	o, err := call()
	if err != want || o != (api.Object{}) {
		t.Errorf("%s = %+v, %d, want nothing, %d", what, o, err, want)
	}
	if after := seen(t, s); !same(before, after) {
		t.Errorf("%s changed\n%+v into\n%+v", what, before, after)
	}
}

// lastEvent: the event that the last write left.
func lastEvent(t *testing.T, s *store.Store, sort uint8, o api.Object) {
	t.Helper()
	list, err := s.Since(o.Version-1, 9)
	if want := []api.Event{{Sort: sort, Object: o}}; err != api.OK || !slices.Equal(list, want) {
		t.Errorf("Since(%d) = %+v, %d, want %+v", o.Version-1, list, err, want)
	}
}
