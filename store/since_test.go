package store_test

import (
	"fmt"
	"slices"
	"testing"

	"tender/api"
)

// P6: the events of all sorts, in the order of their versions, from the first version on.
func TestSince(t *testing.T) {
	s := made(t, 9)
	create(t, s, set("a", 1, 0), pod(1))
	s.Update(set("a", 2, 0))
	s.Update(set("a", 2, 0))
	s.Mark("p2")
	s.Mark("p2")
	s.Remove(api.Pod, "p2", 0)
	p2 := api.Object{Kind: api.Pod, Name: "p2", Uid: 2, Version: 2, Owner: 1}
	gone, was := p2, p2
	gone.Gone, gone.Version = true, 4
	was.Gone, was.Version = true, 5
	all := []api.Event{
		{Sort: api.Added, Object: api.Object{Name: "a", Uid: 1, Version: 1, Replicas: 1}},
		{Sort: api.Added, Object: p2},
		{Sort: api.Modified, Object: api.Object{Name: "a", Uid: 1, Version: 3, Replicas: 2}},
		{Sort: api.Modified, Object: gone},
		{Sort: api.Deleted, Object: was},
	}
	for version := range 6 {
		for _, n := range []int{0, 1, 2, 4, 5, 6, most} {
			want := all[version:min(5, version+min(n, 5))]
			if list, err := s.Since(version, n); err != api.OK || !slices.Equal(list, want) {
				t.Errorf("Since(%d, %d) = %+v, %d, want %+v", version, n, list, err, want)
			}
		}
	}
}

// P6: the last 16 events are kept, and none before them, at every version up to the last.
func TestSinceKeepsTheLast(t *testing.T) {
	s := made(t, 9)
	create(t, s, set("a", 0, 0))
	for now := 1; now <= api.MaxVersion; now++ {
		raise(t, s, now)
		for version := max(0, now-18); version <= now; version++ {
			list, err := s.Since(version, 99)
			if now-version > 16 {
				if err != api.ErrOld || len(list) != 0 {
					t.Fatalf("at %d: Since(%d) = %v, %d", now, version, list, err)
				}
				continue
			}
			if err != api.OK || len(list) != now-version {
				t.Fatalf("at %d: Since(%d) = %v, %d", now, version, list, err)
			}
			for i, e := range list {
				if v := version + 1 + i; e.Object.Version != v || e.Object.Replicas != (v-1)%2 {
					t.Fatalf("at %d: Since(%d)[%d] = %+v", now, version, i, e)
				}
			}
		}
	}
}

// P6: what is asked wrongly, what is too old, and which of the two is told.
func TestSinceRefused(t *testing.T) {
	s := made(t, 64)
	if list, err := s.Since(0, 5); len(list) != 0 || err != api.OK {
		t.Errorf("Since(0, 5) of an empty store = %v, %d", list, err)
	}
	for range 20 {
		create(t, s, pod(1))
	}
	for _, c := range []struct {
		version, n int
		want       api.Errno
	}{
		{-1, 1, api.ErrInvalid}, {least, 1, api.ErrInvalid}, {21, 1, api.ErrInvalid}, {most, 1, api.ErrInvalid}, {21, 0, api.ErrInvalid},
		{20, -1, api.ErrInvalid}, {20, least, api.ErrInvalid}, {0, -1, api.ErrInvalid}, {3, -1, api.ErrInvalid},
		{0, 0, api.ErrOld}, {0, 1, api.ErrOld}, {3, 0, api.ErrOld}, {3, most, api.ErrOld},
	} {
		refuses(t, s, fmt.Sprintf("Since(%d, %d)", c.version, c.n), c.want, func() (api.Object, api.Errno) {
			list, err := s.Since(c.version, c.n)
			if list != nil {
				t.Errorf("Since(%d, %d) = %v", c.version, c.n, list)
			}
			return api.Object{}, err
		})
	}
	for _, c := range []struct{ version, n, len int }{{4, 0, 0}, {4, 16, 16}, {4, 15, 15}, {4, 17, 16}, {20, 0, 0}, {20, most, 0}, {19, most, 1}} {
		if list, err := s.Since(c.version, c.n); err != api.OK || len(list) != c.len {
			t.Errorf("Since(%d, %d) = %v, %d", c.version, c.n, list, err)
		}
	}
}
