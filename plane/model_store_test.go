package plane_test

import (
	"slices"
	"strings"

	"tender/api"
)

// history is what a store is, as the document words it: all events there ever
// were, and what there was at each version.
type history struct {
	limit   int
	created int
	events  []api.Event
	states  [][]api.Object
}

func newHistory(limit int) *history { return &history{limit: limit, states: [][]api.Object{nil}} }

// at: what there was at a version.
func (h *history) at(version int) []api.Object { return h.states[version] }

func (h *history) now() []api.Object { return h.at(len(h.events)) }

// learn lets an event happen.
func (h *history) learn(e api.Event) {
	list := slices.DeleteFunc(slices.Clone(h.now()), func(o api.Object) bool { return o.Kind == e.Object.Kind && o.Name == e.Object.Name })
	if e.Sort != api.Deleted {
		list = append(list, e.Object)
	}
	slices.SortFunc(list, byTelling)
	h.events = append(h.events, e)
	h.states = append(h.states, list)
}

func (h *history) write(sort uint8, o api.Object) (api.Object, api.Errno) {
	o.Version = len(h.events) + 1
	h.learn(api.Event{Sort: sort, Object: o})
	return o, api.OK
}

// create: what is right to create was looked at before.
func (h *history) create(o api.Object) (api.Object, api.Errno) {
	if len(h.events) == 600 {
		return api.Object{}, api.ErrExhausted
	}
	if _, ok := find(h.now(), o); ok {
		return api.Object{}, api.ErrExists
	}
	if len(h.now()) == h.limit {
		return api.Object{}, api.ErrFull
	}
	h.created++
	o.Uid = h.created
	if o.Kind == api.Pod {
		o.Name = podName(o.Uid)
	}
	return h.write(api.Added, o)
}

// change: uid and version are 0 if any will do.
func (h *history) change(kind uint8, name string, uid, version int, turn func(o *api.Object)) (api.Object, api.Errno) {
	if len(h.events) == 600 {
		return api.Object{}, api.ErrExhausted
	}
	was, ok := find(h.now(), api.Object{Kind: kind, Name: name})
	if !ok {
		return api.Object{}, api.ErrMissing
	}
	if uid != 0 && uid != was.Uid || version != 0 && version != was.Version {
		return api.Object{}, api.ErrConflict
	}
	if turn == nil {
		return h.write(api.Deleted, was)
	}
	is := was
	turn(&is)
	if is == was {
		return was, api.OK
	}
	return h.write(api.Modified, is)
}

func byTelling(a, b api.Object) int {
	switch {
	case a.Kind == api.Set && b.Kind == api.Set:
		return strings.Compare(a.Name, b.Name)
	case a.Kind == api.Set:
		return -1
	case b.Kind == api.Set:
		return 1
	}
	return a.Uid - b.Uid
}

func find(list []api.Object, like api.Object) (api.Object, bool) {
	for _, o := range list {
		if o.Kind == like.Kind && o.Name == like.Name {
			return o, true
		}
	}
	return api.Object{}, false
}
