package store_test

import (
	"fmt"
	"testing"

	"tender/api"
	"tender/store"
)

// P5: a set gets Replicas and Status, and nothing else of what is given.
func TestUpdateSet(t *testing.T) {
	s := made(t, 9)
	create(t, s, set("x", 1, 1), set("a", 3, 2))
	for _, c := range []struct {
		given   api.Object
		version int
	}{
		{set("a", 4, 2), 3},
		{set("a", 4, 1), 4},
		{set("a", 0, 0), 5},
		{set("a", 8, 64), 6},
		{set("a", 8, 64), 6},
		{api.Object{Name: "a", Uid: 2, Version: 6, Replicas: 8, Status: 64, Owner: 1, Phase: 9, Gone: true}, 6},
		{api.Object{Name: "a", Uid: 2, Version: 6, Replicas: 7, Owner: -1, Phase: 9, Gone: true}, 7},
		{api.Object{Name: "a", Uid: 2, Replicas: 6}, 8},
		{api.Object{Name: "a", Version: 8, Replicas: 5}, 9},
	} {
		want := api.Object{Name: "a", Uid: 2, Version: c.version, Replicas: c.given.Replicas, Status: c.given.Status}
		o, err := s.Update(c.given)
		answers(t, fmt.Sprintf("Update(%+v)", c.given), o, err, want)
		lastEvent(t, s, api.Modified, want)
		o, err = s.Get(api.Set, "a")
		answers(t, "Get", o, err, want)
	}
	o, err := s.Get(api.Set, "x")
	answers(t, "Get of the other", o, err, api.Object{Name: "x", Uid: 1, Version: 1, Replicas: 1, Status: 1})
}

// P5: a pod gets the Phase, and nothing else of what is given.
func TestUpdatePod(t *testing.T) {
	s := made(t, 9)
	create(t, s, pod(7), pod(7))
	for _, c := range []struct {
		given   api.Object
		version int
	}{
		{api.Object{Kind: api.Pod, Name: "p2", Phase: api.Failed}, 3},
		{api.Object{Kind: api.Pod, Name: "p2", Phase: api.Failed}, 3},
		{api.Object{Kind: api.Pod, Name: "p2", Phase: api.Pending, Owner: 9, Replicas: 99, Status: -1, Gone: true}, 4},
		{api.Object{Kind: api.Pod, Name: "p2", Phase: api.Running, Uid: 2, Version: 4}, 5},
	} {
		want := api.Object{Kind: api.Pod, Name: "p2", Uid: 2, Version: c.version, Owner: 7, Phase: c.given.Phase}
		o, err := s.Update(c.given)
		answers(t, fmt.Sprintf("Update(%+v)", c.given), o, err, want)
		lastEvent(t, s, api.Modified, want)
	}
	s.Mark("p2")
	o, err := s.Update(api.Object{Kind: api.Pod, Name: "p2", Phase: api.Failed})
	answers(t, "Update of one that is Gone", o, err, api.Object{Kind: api.Pod, Name: "p2", Uid: 2, Version: 7, Owner: 7, Phase: api.Failed, Gone: true})
}

// P5: what an update is refused for, the first named first.
func TestUpdateRefused(t *testing.T) {
	s := made(t, 9)
	create(t, s, set("a", 0, 0), pod(1))
	for _, c := range []struct {
		o    api.Object
		want api.Errno
	}{
		{api.Object{Kind: 2, Name: "a"}, api.ErrInvalid}, {api.Object{Kind: 255}, api.ErrInvalid},
		{set("a", -1, 0), api.ErrInvalid}, {set("a", 9, 0), api.ErrInvalid}, {set("a", most, 0), api.ErrInvalid}, {set("a", least, 0), api.ErrInvalid},
		{set("a", 0, -1), api.ErrInvalid}, {set("a", 0, 65), api.ErrInvalid}, {set("a", 0, most), api.ErrInvalid}, {set("a", 0, least), api.ErrInvalid},
		{api.Object{Kind: api.Pod, Name: "p2", Phase: 3}, api.ErrInvalid}, {api.Object{Kind: api.Pod, Name: "p2", Phase: 255}, api.ErrInvalid},
		{set("b", 9, 0), api.ErrInvalid}, {api.Object{Name: "a", Uid: 5, Version: 5, Replicas: 9}, api.ErrInvalid},
		{set("b", 0, 0), api.ErrMissing}, {set("", 0, 0), api.ErrMissing}, {set("NOT A NAME", 0, 0), api.ErrMissing}, {set("p2", 0, 0), api.ErrMissing},
		{api.Object{Kind: api.Pod, Name: "a"}, api.ErrMissing}, {api.Object{Kind: api.Pod}, api.ErrMissing}, {api.Object{Name: "b", Uid: 9, Version: 9}, api.ErrMissing},
		{api.Object{Name: "a", Uid: 2, Replicas: 1}, api.ErrConflict}, {api.Object{Name: "a", Uid: -1, Replicas: 1}, api.ErrConflict},
		{api.Object{Name: "a", Version: 2, Replicas: 1}, api.ErrConflict}, {api.Object{Name: "a", Version: -1, Replicas: 1}, api.ErrConflict},
		{api.Object{Name: "a", Uid: 1, Version: 2, Replicas: 1}, api.ErrConflict}, {api.Object{Name: "a", Uid: 2, Version: 1, Replicas: 1}, api.ErrConflict},
		{api.Object{Name: "a", Version: 2}, api.ErrConflict}, {api.Object{Name: "a", Uid: most}, api.ErrConflict},
		{api.Object{Kind: api.Pod, Name: "p2", Uid: 1, Phase: 1}, api.ErrConflict}, {api.Object{Kind: api.Pod, Name: "p2", Version: 1, Phase: 1}, api.ErrConflict},
	} {
		refuses(t, s, fmt.Sprintf("Update(%+v)", c.o), c.want, func() (api.Object, api.Errno) { return s.Update(c.o) })
	}
}

// P5: a Uid tells a set from an earlier one of the same name.
func TestUpdateOfAnotherOfTheName(t *testing.T) {
	s := made(t, 9)
	create(t, s, set("a", 0, 0))
	s.Remove(api.Set, "a", 0)
	create(t, s, set("a", 0, 0))
	refuses(t, s, "Update", api.ErrConflict, func() (api.Object, api.Errno) {
		return s.Update(api.Object{Name: "a", Uid: 1, Replicas: 1})
	})
	o, err := s.Update(api.Object{Name: "a", Uid: 2, Replicas: 1})
	answers(t, "Update", o, err, api.Object{Name: "a", Uid: 2, Version: 4, Replicas: 1})
}

// P5: a pod is Gone once and for all.
func TestMark(t *testing.T) {
	s := made(t, 9)
	create(t, s, set("a", 0, 0), api.Object{Kind: api.Pod, Owner: 1, Phase: api.Failed}, pod(1))
	want := api.Object{Kind: api.Pod, Name: "p2", Uid: 2, Version: 4, Owner: 1, Phase: api.Failed, Gone: true}
	for range 3 {
		o, err := s.Mark("p2")
		answers(t, "Mark", o, err, want)
		lastEvent(t, s, api.Modified, want)
		o, err = s.Get(api.Pod, "p2")
		answers(t, "Get", o, err, want)
	}
	for _, name := range []string{"a", "", "p1", "p4", "p02", "p", "P2", "p2 "} {
		refuses(t, s, fmt.Sprintf("Mark(%q)", name), api.ErrMissing, func() (api.Object, api.Errno) { return s.Mark(name) })
	}
	s.Remove(api.Pod, "p2", 0)
	refuses(t, s, "Mark of a removed one", api.ErrMissing, func() (api.Object, api.Errno) { return s.Mark("p2") })
}

// P5: what is removed is told as it was, with the version of its removal.
func TestRemove(t *testing.T) {
	s := made(t, 9)
	create(t, s, set("a", 3, 2), pod(1), pod(1), set("b", 0, 0))
	for _, c := range []struct {
		kind    uint8
		name    string
		version int
		want    api.Object
	}{
		{api.Set, "a", 1, api.Object{Name: "a", Uid: 1, Version: 5, Replicas: 3, Status: 2}},
		{api.Pod, "p3", 3, api.Object{Kind: api.Pod, Name: "p3", Uid: 3, Version: 6, Owner: 1}},
		{api.Set, "b", 0, api.Object{Name: "b", Uid: 4, Version: 7}},
	} {
		o, err := s.Remove(c.kind, c.name, c.version)
		answers(t, fmt.Sprintf("Remove(%d, %q, %d)", c.kind, c.name, c.version), o, err, c.want)
		lastEvent(t, s, api.Deleted, c.want)
		refuses(t, s, "Get of a removed one", api.ErrMissing, func() (api.Object, api.Errno) { return s.Get(c.kind, c.name) })
		refuses(t, s, "Remove once more", api.ErrMissing, func() (api.Object, api.Errno) { return s.Remove(c.kind, c.name, 0) })
	}
	o, err := s.Get(api.Pod, "p2")
	answers(t, "Get of what stays", o, err, api.Object{Kind: api.Pod, Name: "p2", Uid: 2, Version: 2, Owner: 1})
}

// P5: what a removal is refused for.
func TestRemoveRefused(t *testing.T) {
	s := made(t, 9)
	create(t, s, set("a", 0, 0), pod(1))
	for _, c := range []struct {
		kind    uint8
		name    string
		version int
		want    api.Errno
	}{
		{api.Set, "p2", 0, api.ErrMissing}, {api.Pod, "a", 0, api.ErrMissing}, {2, "a", 0, api.ErrMissing}, {255, "p2", 2, api.ErrMissing}, {api.Set, "", 0, api.ErrMissing}, {api.Set, "b", 7, api.ErrMissing},
		{api.Set, "a", 2, api.ErrConflict}, {api.Set, "a", -1, api.ErrConflict}, {api.Set, "a", most, api.ErrConflict}, {api.Pod, "p2", 1, api.ErrConflict}, {api.Pod, "p2", least, api.ErrConflict},
	} {
		refuses(t, s, fmt.Sprintf("Remove(%d, %q, %d)", c.kind, c.name, c.version), c.want, func() (api.Object, api.Errno) { return s.Remove(c.kind, c.name, c.version) })
	}
}

// exhausted: a store at the version 600 with the set "a" (Replicas 1), p2, and p3, which is Gone.
func exhausted(t *testing.T) *store.Store {
	t.Helper()
	s := made(t, 9)
	create(t, s, set("a", 0, 0), pod(1), pod(1))
	s.Mark("p3")
	raise(t, s, api.MaxVersion)
	if _, v := s.List(api.Set); v != 600 {
		t.Fatalf("the version is %d", v)
	}
	return s
}

// P5: at the version 600 nothing is written, even if nothing would change or nothing is there.
func TestWritesExhausted(t *testing.T) {
	s := exhausted(t)
	a, _ := s.Get(api.Set, "a")
	for _, o := range []api.Object{a, set("a", 5, 5), set("b", 0, 0), {Name: "a", Uid: 9}, {Kind: api.Pod, Name: "p2", Phase: 1}, {Kind: api.Pod, Name: "p2"}} {
		refuses(t, s, fmt.Sprintf("Update(%+v)", o), api.ErrExhausted, func() (api.Object, api.Errno) { return s.Update(o) })
	}
	refuses(t, s, "Update", api.ErrInvalid, func() (api.Object, api.Errno) { return s.Update(set("a", 9, 0)) })
	for _, name := range []string{"p2", "p3", "p4"} {
		refuses(t, s, "Mark of "+name, api.ErrExhausted, func() (api.Object, api.Errno) { return s.Mark(name) })
		refuses(t, s, "Remove of "+name, api.ErrExhausted, func() (api.Object, api.Errno) { return s.Remove(api.Pod, name, 1) })
	}
	refuses(t, s, "Remove of another kind", api.ErrExhausted, func() (api.Object, api.Errno) { return s.Remove(9, "a", 0) })
	o, err := s.Get(api.Set, "a")
	answers(t, "Get", o, err, a)
}

// P5: the version 599 is not the last one yet.
func TestTheLastWrite(t *testing.T) {
	for what, call := range map[string]func(s *store.Store) (api.Object, api.Errno){
		"Update": func(s *store.Store) (api.Object, api.Errno) { return s.Update(set("a", 7, 0)) },
		"Mark":   func(s *store.Store) (api.Object, api.Errno) { return s.Mark("p2") },
		"Remove": func(s *store.Store) (api.Object, api.Errno) { return s.Remove(api.Set, "a", 599) },
	} {
		s := made(t, 9)
		create(t, s, set("a", 0, 0), pod(1))
		raise(t, s, api.MaxVersion-1)
		if o, err := call(s); err != api.OK || o.Version != 600 {
			t.Errorf("%s at the version 599 = %+v, %d", what, o, err)
		}
	}
}
