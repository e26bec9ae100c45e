package plane_test

import (
	"fmt"
	"slices"
	"strings"

	"tender/api"
)

// model is what a plane without a controller is, as the document words it: it
// knows all events there ever were, and what the store was at each version.
type model struct {
	events   []api.Event
	version  int
	listed   bool
	row      []string
	expected []api.Hope
	clock    int
}

// at: what the store was at a version.
func (m *model) at(version int) []api.Object {
	var list []api.Object
	for _, e := range m.events[:version] {
		list = slices.DeleteFunc(list, func(o api.Object) bool { return o.Kind == e.Object.Kind && o.Name == e.Object.Name })
		if e.Sort != api.Deleted {
			list = append(list, e.Object)
		}
	}
	slices.SortFunc(list, byTelling)
	return list
}

func byTelling(a, b api.Object) int {
	switch {
	case a.Kind == api.Set && b.Kind == api.Set:
		return strings.Compare(a.Name, b.Name)
	case a.Kind == api.Set:
		return -1
	case b.Kind == api.Set:
		return 1
	}
	return a.Uid - b.Uid
}

func (m *model) cached() []api.Object {
	if !m.listed {
		return nil
	}
	return m.at(m.version)
}

func find(list []api.Object, like api.Object) (api.Object, bool) {
	for _, o := range list {
		if o.Kind == like.Kind && o.Name == like.Name {
			return o, true
		}
	}
	return api.Object{}, false
}

// deliver tells how many notices came.
func (m *model) deliver(n int) int {
	if !m.listed || len(m.events)-m.version > 16 {
		return m.listAnew()
	}
	did := 0
	for did < n && m.version < len(m.events) {
		was := m.cached()
		e := m.events[m.version]
		m.version++
		old, _ := find(was, e.Object)
		m.notice(e.Sort, old, e.Object)
		did++
	}
	return did
}

func (m *model) listAnew() int {
	was := m.cached()
	m.version, m.listed = len(m.events), true
	is := m.cached()
	all := slices.Clone(is)
	for _, o := range was {
		if _, ok := find(is, o); !ok {
			all = append(all, o)
		}
	}
	slices.SortFunc(all, byTelling)
	did := 0
	for _, o := range all {
		old, wasThere := find(was, o)
		now, isThere := find(is, o)
		switch {
		case wasThere && isThere && old.Uid == now.Uid:
			if old.Version != now.Version {
				m.notice(api.Modified, old, now)
				did++
			}
			continue
		case wasThere:
			m.notice(api.Deleted, old, old)
			did++
		}
		if isThere {
			m.notice(api.Added, api.Object{}, now)
			did++
		}
	}
	return did
}

func (m *model) add(name string) {
	if !slices.Contains(m.row, name) {
		m.row = append(m.row, name)
	}
}

func (m *model) notice(sort uint8, was, is api.Object) {
	if is.Kind == api.Set {
		m.add(is.Name)
		if sort == api.Deleted {
			m.expected = slices.DeleteFunc(m.expected, func(h api.Hope) bool { return h.Uid == is.Uid })
		}
		return
	}
	for i := range m.expected {
		h := &m.expected[i]
		if h.Uid != is.Owner {
			continue
		}
		if sort == api.Added && h.Creations > 0 {
			h.Creations--
		}
		if k := slices.Index(h.Deletions, is.Uid); k >= 0 && (sort == api.Deleted || is.Gone && !was.Gone) {
			h.Deletions = slices.Delete(h.Deletions, k, k+1)
		}
	}
	m.expected = slices.DeleteFunc(m.expected, func(h api.Hope) bool { return h.Creations == 0 && len(h.Deletions) == 0 })
	for _, o := range m.cached() {
		if o.Kind == api.Set && o.Uid == is.Owner {
			m.add(o.Name)
		}
	}
}

func (m *model) lay(h api.Hope) {
	h.Deletions = slices.Clone(h.Deletions)
	m.expected = slices.DeleteFunc(m.expected, func(o api.Hope) bool { return o.Uid == h.Uid })
	m.expected = append(m.expected, h)
	slices.SortFunc(m.expected, func(a, b api.Hope) int { return a.Uid - b.Uid })
}

func (m *model) crash() {
	m.version, m.listed, m.row, m.expected = 0, false, nil, nil
}

// seen is worded as that of a plane.
func (m *model) seen() string {
	var due []api.Due
	return fmt.Sprintf("stored %+v %d; cached %+v %d %v; queued %q %v; expected %v; clock %d %d", m.at(len(m.events)), len(m.events), m.cached(), m.version, m.listed, m.row, due, m.expected, m.clock, 0)
}
