package store_test

import (
	"fmt"
	"slices"
	"testing"

	"tender/api"
)

func names(list []api.Object) []string {
	var out []string
	for _, o := range list {
		out = append(out, o.Name)
	}
	return out
}

// P4: the object of this kind and this name, as it is now.
func TestGet(t *testing.T) {
	s := made(t, 9)
	create(t, s, set("web", 2, 1), pod(1))
	o, err := s.Get(api.Set, "web")
	answers(t, "Get", o, err, api.Object{Name: "web", Uid: 1, Version: 1, Replicas: 2, Status: 1})
	s.Mark("p2")
	o, err = s.Get(api.Pod, "p2")
	answers(t, "Get", o, err, api.Object{Kind: api.Pod, Name: "p2", Uid: 2, Version: 3, Owner: 1, Gone: true})
	s.Remove(api.Pod, "p2", 0)
	for _, c := range []struct {
		kind uint8
		name string
	}{{api.Set, "p2"}, {api.Pod, "p2"}, {api.Pod, "web"}, {2, "web"}, {255, "web"}, {api.Set, ""}, {api.Pod, ""}, {api.Set, "we"}, {api.Set, "webs"}, {api.Set, "a name that no object has"}} {
		refuses(t, s, fmt.Sprintf("Get(%d, %q)", c.kind, c.name), api.ErrMissing, func() (api.Object, api.Errno) { return s.Get(c.kind, c.name) })
	}
}

// P4: sets by their names, pods by their Uids; and the version, of whatever kind.
func TestList(t *testing.T) {
	s := made(t, 64)
	for _, n := range []string{"m", "ab", "z", "b", "a", "aa", "abc", "zzzzzzzz"} {
		create(t, s, set(n, 1, 0), pod(3), pod(1))
	}
	sets, v := s.List(api.Set)
	if want := []string{"a", "aa", "ab", "abc", "b", "m", "z", "zzzzzzzz"}; !slices.Equal(names(sets), want) || v != 24 {
		t.Errorf("List(Set) = %v, %d, want %v, 24", names(sets), v, want)
	}
	s.Mark("p9")
	s.Remove(api.Pod, "p11", 0)
	s.Remove(api.Set, "m", 0)
	pods, v := s.List(api.Pod)
	if want := []string{"p2", "p3", "p5", "p6", "p8", "p9", "p12", "p14", "p15", "p17", "p18", "p20", "p21", "p23", "p24"}; !slices.Equal(names(pods), want) || v != 27 {
		t.Errorf("List(Pod) = %v, %d, want %v, 27", names(pods), v, want)
	}
	for _, o := range pods {
		got, err := s.Get(api.Pod, o.Name)
		answers(t, "Get", got, err, o)
	}
	for _, kind := range []uint8{2, 3, 128, 255} {
		if list, v := s.List(kind); len(list) != 0 || v != 27 {
			t.Errorf("List(%d) = %v, %d", kind, list, v)
		}
	}
}
