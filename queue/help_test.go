package queue_test

import (
	"slices"
	"testing"

	"tender/api"
	"tender/queue"
)

// least and most: the numbers at the ends of int.
const (
	most  = int(^uint(0) >> 1)
	least = -most - 1
)

func made(t *testing.T) *queue.Queue {
	t.Helper()
	q := queue.New()
	if q == nil {
		t.Fatal("New() = nil")
	}
	return q
}

// row, due and at write down what Told should tell.
func row(keys ...string) []string { return keys }

func due(list ...api.Due) []api.Due { return list }

func at(tick int, key string) api.Due { return api.Due{Key: key, At: tick} }

func tells(t *testing.T, q *queue.Queue, row []string, due []api.Due) {
	t.Helper()
	if a, b := q.Told(); !slices.Equal(a, row) || !slices.Equal(b, due) {
		t.Errorf("Told() = %q, %v, want %q, %v", a, b, row, due)
	}
}

// takes takes these keys, one after the other.
func takes(t *testing.T, q *queue.Queue, want ...string) {
	t.Helper()
	for _, k := range want {
		if got, ok := q.Take(); got != k || !ok {
			t.Errorf("Take() = %q, %v, want %q, true", got, ok, k)
		}
	}
}

func takesNothing(t *testing.T, q *queue.Queue) {
	t.Helper()
	if got, ok := q.Take(); got != "" || ok {
		t.Errorf("Take() = %q, %v, want nothing", got, ok)
	}
}

// all does a call with each of some keys, which are right.
func all(t *testing.T, call func(string) api.Errno, keys ...string) {
	t.Helper()
	for _, k := range keys {
		if err := call(k); err != api.OK {
			t.Errorf("the call with %q: %d", k, err)
		}
	}
}

func after(t *testing.T, q *queue.Queue, key string, ticks int) {
	t.Helper()
	if err := q.After(key, ticks); err != api.OK {
		t.Errorf("After(%q, %d): %d", key, ticks, err)
	}
}

func tick(q *queue.Queue, n int) {
	for range n {
		q.Tick()
	}
}

// keyCalls are the calls that take a key.
func keyCalls(q *queue.Queue) map[string]func(string) api.Errno {
	return map[string]func(string) api.Errno{
		"Add":         q.Add,
		"After 0":     func(k string) api.Errno { return q.After(k, 0) },
		"After -1":    func(k string) api.Errno { return q.After(k, -1) },
		"After least": func(k string) api.Errno { return q.After(k, least) },
		"After 1":     func(k string) api.Errno { return q.After(k, 1) },
		"After most":  func(k string) api.Errno { return q.After(k, most) },
		"Limited":     q.Limited,
		"Forget":      q.Forget,
		"Done":        q.Done,
	}
}
