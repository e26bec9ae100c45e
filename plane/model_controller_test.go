package plane_test

import (
	"fmt"
	"slices"
	"strings"

	"tender/api"
)

func podName(uid int) string { return fmt.Sprintf("p%d", uid) }

// livePods: of a list, the live pods of an owner.
func livePods(list []api.Object, owner int) []api.Object {
	var live []api.Object
	for _, o := range list {
		if o.Kind == api.Pod && o.Owner == owner && !o.Gone && o.Phase != api.Failed {
			live = append(live, o)
		}
	}
	return live
}

func (m *model) sync() int {
	if !m.listed || len(m.row) == 0 {
		return 0
	}
	name := m.row[0]
	m.row = m.row[1:]
	set, ok := find(m.cached(), api.Object{Kind: api.Set, Name: name})
	refused := false
	if ok {
		refused = m.tend(set)
	}
	if refused {
		m.limited(name)
	} else {
		delete(m.failed, name)
	}
	return 1
}

// tend tells whether something was refused that makes the key be looked at again.
func (m *model) tend(set api.Object) bool {
	live := livePods(m.cached(), set.Uid)
	refused := false
	if m.hopesOf(set.Uid) == nil {
		for range min(set.Replicas-len(live), m.config.Burst) {
			if _, err := m.create(api.Object{Kind: api.Pod, Owner: set.Uid}); err != api.OK {
				refused = true
				break
			}
			m.hopeFor(set.Uid, 1)
		}
		for range min(len(live)-set.Replicas, m.config.Burst) {
			var pod api.Object
			pod, live = nextToGo(live)
			_, err := m.change(api.Pod, pod.Name, 0, 0, func(o *api.Object) { o.Gone = true })
			if err == api.OK {
				m.hopeFor(set.Uid, 0, pod.Uid)
			}
			refused = refused || err != api.OK && err != api.ErrMissing
		}
	}
	if n := len(livePods(m.cached(), set.Uid)); set.Status != n {
		_, err := m.change(api.Set, set.Name, set.Uid, set.Version, func(o *api.Object) { o.Replicas, o.Status = set.Replicas, n })
		refused = refused || err != api.OK
	}
	return refused
}

// hopeFor: more of it than before.
func (m *model) hopeFor(uid, creations int, deletions ...int) {
	h := api.Hope{Uid: uid, At: m.clock}
	if was := m.hopesOf(uid); was != nil {
		h = *was
	}
	h.Creations += creations
	h.Deletions = append(h.Deletions, deletions...)
	slices.Sort(h.Deletions)
	m.lay(h)
}

// nextToGo: the pod that goes first, and those that are left.
func nextToGo(live []api.Object) (api.Object, []api.Object) {
	best := 0
	for i, o := range live {
		if b := live[best]; o.Phase < b.Phase || o.Phase == b.Phase && o.Uid > b.Uid {
			best = i
		}
	}
	return live[best], slices.Concat(live[:best], live[best+1:])
}

// limited: a tick, then 2, 4, and 8 each time; the earlier counts.
func (m *model) limited(name string) {
	at := m.clock + []int{1, 2, 4, 8}[min(m.failed[name], 3)]
	m.failed[name]++
	for i, d := range m.due {
		if d.Key == name {
			at = min(at, d.At)
			m.due = slices.Delete(m.due, i, i+1)
			break
		}
	}
	m.due = append(m.due, api.Due{Key: name, At: at})
	slices.SortFunc(m.due, func(a, b api.Due) int {
		if a.At != b.At {
			return a.At - b.At
		}
		return strings.Compare(a.Key, b.Key)
	})
}

func (m *model) node() int {
	did := func(_ api.Object, err api.Errno) int {
		if err != api.OK {
			return 0
		}
		return 1
	}
	for _, o := range m.now() {
		if o.Gone {
			return did(m.change(api.Pod, o.Name, 0, 0, nil))
		}
	}
	for _, o := range m.now() {
		if o.Kind == api.Pod && o.Phase == api.Pending {
			return did(m.change(api.Pod, o.Name, 0, 0, func(o *api.Object) { o.Phase = api.Running }))
		}
	}
	return 0
}

func (m *model) tick() int {
	m.clock++
	for len(m.due) > 0 && m.due[0].At == m.clock {
		m.add(m.due[0].Key)
		m.due = m.due[1:]
	}
	did := 0
	for uid := range 1000 {
		if h := m.hopesOf(uid); h != nil && h.At+m.config.Timeout <= m.clock {
			m.forgetHopes(uid)
			m.addSet(uid)
			did++
		}
	}
	m.timeouts += did
	return did
}
