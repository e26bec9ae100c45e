package queue_test

import (
	"slices"
	"strings"

	"tender/api"
)

// model is a queue as the document words it: what is true of each key, by itself.
type model struct {
	clock, turns int
	keys         map[string]*truth
}

type truth struct {
	waitsSince    int // the turn at which it joined the row; 0: it does not wait
	inHand, again bool
	due           []int // all ticks that were asked for: the earliest counts
	failed        int
}

func newModel() *model { return &model{keys: map[string]*truth{}} }

func (m *model) of(key string) *truth {
	if m.keys[key] == nil {
		m.keys[key] = &truth{}
	}
	return m.keys[key]
}

func (m *model) add(key string) {
	k := m.of(key)
	switch {
	case k.waitsSince > 0:
	case k.inHand:
		k.again = true
	default:
		m.turns++
		k.waitsSince = m.turns
	}
}

func (m *model) after(key string, ticks int) {
	if ticks <= 0 {
		m.add(key)
		return
	}
	k := m.of(key)
	k.due = append(k.due, m.clock+min(ticks, 1000))
}

func (m *model) limited(key string) {
	k := m.of(key)
	wait := 1
	for range k.failed {
		wait = min(2*wait, 8)
	}
	m.after(key, wait)
	k.failed++
}

func (m *model) take() (string, bool) {
	row, _ := m.told()
	if len(row) == 0 {
		return "", false
	}
	k := m.of(row[0])
	k.waitsSince, k.inHand = 0, true
	return row[0], true
}

func (m *model) done(key string) {
	k := m.of(key)
	again := k.again
	k.inHand, k.again = false, false
	if again {
		m.add(key)
	}
}

func (m *model) tick() {
	m.clock++
	_, list := m.told()
	for _, d := range list {
		if d.At == m.clock {
			m.of(d.Key).due = nil
			m.add(d.Key)
		}
	}
}

func (m *model) told() ([]string, []api.Due) {
	var row []string
	var list []api.Due
	for key, k := range m.keys {
		if k.waitsSince > 0 {
			row = append(row, key)
		}
		if len(k.due) > 0 {
			list = append(list, api.Due{Key: key, At: slices.Min(k.due)})
		}
	}
	slices.SortFunc(row, func(a, b string) int { return m.of(a).waitsSince - m.of(b).waitsSince })
	slices.SortFunc(list, func(a, b api.Due) int {
		if a.At != b.At {
			return a.At - b.At
		}
		return strings.Compare(a.Key, b.Key)
	})
	return row, list
}
