package plane_test

import (
	"fmt"
	"slices"
	"strings"

	"tender/api"
	"tender/plane"
)

// model is what a plane is, as the document words it.
type model struct {
	*history
	config   api.Config
	version  int
	listed   bool
	row      []string
	due      []api.Due
	failed   map[string]int
	expected []api.Hope
	clock    int
	timeouts int
}

func newModel(c api.Config) *model {
	return &model{history: newHistory(c.Limit), config: c, failed: map[string]int{}}
}

func (m *model) do(op api.Op) api.Answer {
	switch op.Kind {
	case api.MakeSet, api.Scale, api.DropSet, api.DropPod, api.FailPod:
		o, err := m.client(op)
		if err != api.OK {
			return api.Answer{Err: err}
		}
		return api.Answer{Objects: []api.Object{o}}
	case api.Read:
		if op.N != 0 && op.N != 1 {
			return api.Answer{Err: api.ErrInvalid}
		}
		return api.Answer{Objects: slices.DeleteFunc(slices.Clone(m.now()), func(o api.Object) bool { return int(o.Kind) != op.N })}
	case api.Deliver:
		if op.N < 0 {
			return api.Answer{Err: api.ErrInvalid}
		}
		return api.Answer{Did: m.deliver(op.N)}
	case api.Sync:
		return api.Answer{Did: m.sync()}
	case api.Node:
		return api.Answer{Did: m.node()}
	case api.Tick:
		return api.Answer{Did: m.tick()}
	case api.Crash:
		m.version, m.listed, m.row, m.due, m.expected = 0, false, nil, nil, nil
		m.failed = map[string]int{}
		return api.Answer{}
	}
	return api.Answer{Err: api.ErrInvalid}
}

func (m *model) client(op api.Op) (api.Object, api.Errno) {
	switch op.Kind {
	case api.MakeSet:
		if op.Name == "" || len(op.Name) > 8 || strings.Trim(op.Name, "abcdefghijklmnopqrstuvwxyz") != "" || op.N < 0 || op.N > 8 {
			return api.Object{}, api.ErrInvalid
		}
		return m.create(api.Object{Kind: api.Set, Name: op.Name, Replicas: op.N})
	case api.Scale:
		if op.N < 0 || op.N > 8 {
			return api.Object{}, api.ErrInvalid
		}
		return m.change(api.Set, op.Name, 0, op.Version, func(o *api.Object) { o.Replicas = op.N })
	case api.DropSet:
		return m.change(api.Set, op.Name, 0, op.Version, nil)
	case api.DropPod:
		return m.change(api.Pod, op.Name, 0, 0, func(o *api.Object) { o.Gone = true })
	}
	return m.change(api.Pod, op.Name, 0, 0, func(o *api.Object) { o.Phase = api.Failed })
}

func (m *model) cached() []api.Object {
	if !m.listed {
		return nil
	}
	return m.at(m.version)
}

// deliver tells how many notices came.
func (m *model) deliver(n int) int {
	if !m.listed || len(m.events)-m.version > 16 {
		return m.listAnew()
	}
	did := 0
	for did < n && m.version < len(m.events) {
		e := m.events[m.version]
		old, _ := find(m.cached(), e.Object)
		m.version++
		m.notice(e.Sort, old, e.Object)
		did++
	}
	return did
}

func (m *model) listAnew() int {
	was := m.cached()
	m.version, m.listed = len(m.events), true
	is := m.cached()
	all := slices.Clone(is)
	for _, o := range was {
		if _, ok := find(is, o); !ok {
			all = append(all, o)
		}
	}
	slices.SortFunc(all, byTelling)
	did := 0
	for _, o := range all {
		old, wasThere := find(was, o)
		now, isThere := find(is, o)
		switch {
		case wasThere && isThere && old.Uid == now.Uid:
			if old.Version != now.Version {
				m.notice(api.Modified, old, now)
				did++
			}
			continue
		case wasThere:
			m.notice(api.Deleted, old, old)
			did++
		}
		if isThere {
			m.notice(api.Added, api.Object{}, now)
			did++
		}
	}
	return did
}

func (m *model) notice(sort uint8, was, is api.Object) {
	if is.Kind == api.Set {
		m.add(is.Name)
		if sort == api.Deleted {
			m.forgetHopes(is.Uid)
		}
		return
	}
	if h := m.hopesOf(is.Owner); h != nil {
		if sort == api.Added && h.Creations > 0 {
			h.Creations--
		}
		if sort == api.Deleted || is.Gone && !was.Gone {
			h.Deletions = without(h.Deletions, is.Uid)
		}
		m.forgetMet()
	}
	m.addSet(is.Owner)
}

func (m *model) add(name string) {
	if !slices.Contains(m.row, name) {
		m.row = append(m.row, name)
	}
}

// addSet adds the set with a Uid, if it is in the cache.
func (m *model) addSet(uid int) {
	for _, o := range m.cached() {
		if o.Kind == api.Set && o.Uid == uid {
			m.add(o.Name)
		}
	}
}

func (m *model) hopesOf(uid int) *api.Hope {
	for i := range m.expected {
		if m.expected[i].Uid == uid {
			return &m.expected[i]
		}
	}
	return nil
}

func (m *model) forgetHopes(uid int) {
	m.expected = slices.DeleteFunc(m.expected, func(h api.Hope) bool { return h.Uid == uid })
}

func (m *model) forgetMet() {
	m.expected = slices.DeleteFunc(m.expected, func(h api.Hope) bool { return h.Creations == 0 && len(h.Deletions) == 0 })
}

func (m *model) lay(h api.Hope) {
	h.Deletions = slices.Clone(h.Deletions)
	m.forgetHopes(h.Uid)
	m.expected = append(m.expected, h)
	slices.SortFunc(m.expected, func(a, b api.Hope) int { return a.Uid - b.Uid })
}

func without(list []int, n int) []int {
	return slices.DeleteFunc(list, func(k int) bool { return k == n })
}

// isLike: all that can be seen of a plane is as it is here.
func (m *model) isLike(p *plane.Plane) bool {
	stored, version := p.Stored()
	cached, cachedVersion, listed := p.Cached()
	row, due := p.Queued()
	clock, timeouts := p.Clock()
	return slices.Equal(stored, m.now()) && version == len(m.events) &&
		slices.Equal(cached, m.cached()) && cachedVersion == m.version && listed == m.listed &&
		slices.Equal(row, m.row) && slices.Equal(due, m.due) &&
		slices.EqualFunc(p.Expected(), m.expected, sameHope) &&
		clock == m.clock && timeouts == m.timeouts
}

func sameHope(a, b api.Hope) bool {
	return a.Uid == b.Uid && a.Creations == b.Creations && slices.Equal(a.Deletions, b.Deletions) && a.At == b.At
}

// seen is worded as that of a plane.
func (m *model) seen() string {
	return fmt.Sprintf("stored %+v %d; cached %+v %d %v; queued %q %v; expected %v; clock %d %d", m.now(), len(m.events), m.cached(), m.version, m.listed, m.row, m.due, m.expected, m.clock, m.timeouts)
}
