package store_test

import (
	"fmt"
	"slices"
	"testing"

	"tender/api"
	"tender/store"
)

// P3: the limit.
func TestNew(t *testing.T) {
	for _, limit := range []int{least, -1, 0, 65, 64 + 1<<32, most} {
		if s, err := store.New(limit); s != nil || err != api.ErrInvalid {
			t.Errorf("New(%d) = %v, %d", limit, s, err)
		}
	}
	for _, limit := range []int{1, 2, 63, 64} {
		s := made(t, limit)
		if v := seen(t, s); !same(v, view{}) {
			t.Errorf("New(%d) is not empty: %+v", limit, v)
		}
	}
}

// P3: what joins, and how.
func TestCreate(t *testing.T) {
	s := made(t, 64)
	for i, c := range []struct{ given, want api.Object }{
		{set("web", 2, 0), set("web", 2, 0)},
		{pod(1), api.Object{Kind: api.Pod, Name: "p2", Owner: 1}},
		{set("a", 0, 0), set("a", 0, 0)},
		{set("z", 8, 64), set("z", 8, 64)},
		{set("abcdwxyz", 1, 1), set("abcdwxyz", 1, 1)},
		{set("p", 1, 1), set("p", 1, 1)},
		{api.Object{Name: "b", Uid: 77, Version: -3, Gone: true}, set("b", 0, 0)},
		{api.Object{Kind: api.Pod, Owner: most, Phase: api.Running}, api.Object{Kind: api.Pod, Name: "p8", Owner: most, Phase: api.Running}},
		{api.Object{Kind: api.Pod, Owner: 9, Phase: api.Failed, Uid: 1, Version: 1, Gone: true}, api.Object{Kind: api.Pod, Name: "p9", Owner: 9, Phase: api.Failed}},
		{pod(1), api.Object{Kind: api.Pod, Name: "p10", Owner: 1}},
	} {
		c.want.Uid, c.want.Version = i+1, i+1
		o, err := s.Create(c.given)
		answers(t, fmt.Sprintf("Create(%+v)", c.given), o, err, c.want)
		lastEvent(t, s, api.Added, c.want)
		o, err = s.Get(c.want.Kind, c.want.Name)
		answers(t, "Get", o, err, c.want)
	}
}

// P3: a Uid counts what was ever created: neither other writes, nor what was refused.
func TestUidsAreCounted(t *testing.T) {
	s := made(t, 2)
	create(t, s, set("a", 0, 0))
	raise(t, s, 5)
	s.Create(set("a", 0, 0))
	s.Create(pod(0))
	o, err := s.Create(pod(1))
	answers(t, "Create", o, err, api.Object{Kind: api.Pod, Name: "p2", Uid: 2, Version: 6, Owner: 1})
	s.Create(pod(1))
	s.Remove(api.Pod, "p2", 0)
	s.Remove(api.Set, "a", 0)
	o, err = s.Create(set("a", 4, 0))
	answers(t, "Create of a name that was free again", o, err, api.Object{Name: "a", Uid: 3, Version: 9, Replicas: 4})
}

// P3: what is not right to create.
func TestCreateInvalid(t *testing.T) {
	s := made(t, 1)
	create(t, s, set("a", 0, 0))
	for _, name := range []string{"", "ninechars", "A", "aB", "a1", "a-", " a", "a\x00", "`", "{", "é", "\xff", "p1"} {
		refuses(t, s, fmt.Sprintf("Create of the set %q", name), api.ErrInvalid, func() (api.Object, api.Errno) { return s.Create(set(name, 0, 0)) })
	}
	for _, o := range []api.Object{
		set("b", -1, 0), set("b", 9, 0), set("b", least, 0), set("b", most, 0),
		set("b", 0, -1), set("b", 0, 65), set("b", 0, least), set("b", 0, most),
		{Name: "b", Owner: 1}, {Name: "b", Owner: -1}, {Name: "b", Phase: api.Running}, {Name: "b", Phase: 255},
		{Kind: 2, Name: "b"}, {Kind: 255, Name: "b"}, {Kind: 2, Owner: 1},
		pod(0), pod(-1), pod(least),
		{Kind: api.Pod, Owner: 1, Name: "p2"}, {Kind: api.Pod, Owner: 1, Name: "a"},
		{Kind: api.Pod, Owner: 1, Phase: 3}, {Kind: api.Pod, Owner: 1, Phase: 255},
		{Kind: api.Pod, Owner: 1, Replicas: 1}, {Kind: api.Pod, Owner: 1, Replicas: -1},
		{Kind: api.Pod, Owner: 1, Status: 1}, {Kind: api.Pod, Owner: 1, Status: -1},
		// The name is there and there is no room: ErrInvalid is named first.
		set("a", 9, 0),
	} {
		refuses(t, s, fmt.Sprintf("Create(%+v)", o), api.ErrInvalid, func() (api.Object, api.Errno) { return s.Create(o) })
	}
}

// P3: as many objects as the limit says, of both kinds together.
func TestCreateFull(t *testing.T) {
	for _, limit := range []int{1, 2, 64} {
		s := made(t, limit)
		create(t, s, set("a", 0, 0))
		for range limit - 1 {
			create(t, s, pod(1))
		}
		refuses(t, s, "Create of one too many", api.ErrFull, func() (api.Object, api.Errno) { return s.Create(pod(1)) })
		refuses(t, s, "Create of one too many", api.ErrFull, func() (api.Object, api.Errno) { return s.Create(set("b", 0, 0)) })
		refuses(t, s, "Create of one that is there", api.ErrExists, func() (api.Object, api.Errno) { return s.Create(set("a", 0, 0)) })
		s.Remove(api.Set, "a", 0)
		create(t, s, pod(1))
	}
}

// P3: ErrExists is of sets alone, and of the whole name.
func TestCreateExists(t *testing.T) {
	s := made(t, 9)
	create(t, s, set("a", 0, 0), pod(1), pod(1), set("aa", 0, 0), set("p", 0, 0))
	refuses(t, s, "Create", api.ErrExists, func() (api.Object, api.Errno) { return s.Create(set("aa", 3, 0)) })
}

// P3: at the version 600 nothing is created; what is not right is told first, the rest later.
func TestCreateExhausted(t *testing.T) {
	s := made(t, 1)
	create(t, s, set("a", 0, 0))
	raise(t, s, api.MaxVersion-1)
	s.Remove(api.Set, "a", 0)
	refuses(t, s, "Create", api.ErrExhausted, func() (api.Object, api.Errno) { return s.Create(pod(1)) })

	s = made(t, 1)
	create(t, s, set("a", 0, 0))
	raise(t, s, api.MaxVersion)
	for _, o := range []api.Object{set("a", 0, 0), set("b", 0, 0), pod(1)} {
		refuses(t, s, fmt.Sprintf("Create(%+v)", o), api.ErrExhausted, func() (api.Object, api.Errno) { return s.Create(o) })
	}
	refuses(t, s, "Create", api.ErrInvalid, func() (api.Object, api.Errno) { return s.Create(pod(0)) })
}

// P3: the last version is spent as every other.
func TestCreateAtTheLastVersion(t *testing.T) {
	s := made(t, 2)
	create(t, s, set("a", 0, 0))
	raise(t, s, api.MaxVersion-1)
	o, err := s.Create(pod(1))
	want := api.Object{Kind: api.Pod, Name: "p2", Uid: 2, Version: 600, Owner: 1}
	answers(t, "Create", o, err, want)
	if pods, v := s.List(api.Pod); !slices.Equal(pods, []api.Object{want}) || v != 600 {
		t.Errorf("List = %+v, %d", pods, v)
	}
}
