package queue_test

import (
	"strings"
	"testing"

	"tender/api"
	"tender/queue"
)

// P7: a new queue has nothing.
func TestNew(t *testing.T) {
	q := made(t)
	tells(t, q, nil, nil)
	takesNothing(t, q)
	q.Tick()
	tells(t, q, nil, nil)
}

// P7: a key is 1 to 8 bytes, whichever they are.
func TestRightKeys(t *testing.T) {
	for _, k := range []string{"a", "12345678", "\x00", " ", "\xff\xfe", "éééé", "A-9", "\x00\x00\x00\x00\x00\x00\x00\x00"} {
		for name, call := range keyCalls(made(t)) {
			if err := call(k); err != api.OK {
				t.Errorf("%s with %q: %d", name, k, err)
			}
		}
		q := made(t)
		all(t, q.Add, k)
		tells(t, q, row(k), nil)
		takes(t, q, k)
		after(t, q, k, 1)
		tells(t, q, nil, due(at(1, k)))
	}
}

// busy has a key in each state that a queue knows: w waits, h is in hand, c is called again, d and w are due, and d and f have failed.
func busy(t *testing.T) *queue.Queue {
	t.Helper()
	q := made(t)
	all(t, q.Add, "h", "c", "w")
	takes(t, q, "h", "c")
	all(t, q.Add, "c")
	after(t, q, "w", 3)
	all(t, q.Limited, "f")
	q.Tick()
	takes(t, q, "w", "f")
	all(t, q.Done, "w", "f")
	all(t, q.Add, "w")
	all(t, q.Limited, "d", "d")
	return q
}

// isBusy asks a queue for all that busy made of it, hidden states too.
func isBusy(t *testing.T, what string, q *queue.Queue) {
	t.Helper()
	tells(t, q, row("w"), due(at(2, "d"), at(3, "w")))
	all(t, q.Add, "h")
	all(t, q.Done, "c", "h", "f", "d")
	tells(t, q, row("w", "c", "h"), due(at(2, "d"), at(3, "w")))
	tick(q, 2)
	all(t, q.Limited, "d", "f", "h")
	tells(t, q, row("w", "c", "h", "d"), due(at(4, "h"), at(5, "f"), at(7, "d")))
	if t.Failed() {
		t.Fatalf("that was behind %s", what)
	}
}

// P7, P1: what is no key is refused by every call, and nothing changes.
func TestWrongKeys(t *testing.T) {
	isBusy(t, "no wrong call", busy(t))
	for _, k := range []string{"", "123456789", "ééééé", strings.Repeat("w", 1<<16), "wwwwwwww\x00"} {
		for name := range keyCalls(busy(t)) {
			q := busy(t)
			if err := keyCalls(q)[name](k); err != api.ErrInvalid {
				t.Errorf("%s with %.20q: %d, want ErrInvalid", name, k, err)
			}
			isBusy(t, name, q)
		}
	}
}

// P7: who waits does so once, in the place it has.
func TestAdd(t *testing.T) {
	q := made(t)
	all(t, q.Add, "b", "a", "b", "c", "a", "a")
	tells(t, q, row("b", "a", "c"), nil)
	takes(t, q, "b", "a", "c")
	takesNothing(t, q)
}

// P7: a key that was taken and is done may wait again, as the last.
func TestAddAnew(t *testing.T) {
	q := made(t)
	all(t, q.Add, "a", "b")
	takes(t, q, "a")
	all(t, q.Done, "a")
	tells(t, q, row("b"), nil)
	all(t, q.Add, "a")
	tells(t, q, row("b", "a"), nil)
	takes(t, q, "b", "a")
	takesNothing(t, q)
}

// P7 and the example: a key in hand does not wait; called again, it waits when it is done.
func TestCalledAgain(t *testing.T) {
	q := made(t)
	all(t, q.Add, "a")
	takes(t, q, "a")
	all(t, q.Add, "a", "a", "b")
	tells(t, q, row("b"), nil)
	all(t, q.Done, "a")
	tells(t, q, row("b", "a"), nil)
	all(t, q.Done, "a")
	tells(t, q, row("b", "a"), nil)
	takes(t, q, "b", "a")
	takesNothing(t, q)
	all(t, q.Done, "a")
	tells(t, q, nil, nil)
	all(t, q.Add, "a")
	tells(t, q, row("a"), nil)
}

// P7: many may be in hand, and are done in any order.
func TestManyInHand(t *testing.T) {
	q := made(t)
	all(t, q.Add, "a", "b", "c")
	takes(t, q, "a", "b", "c")
	all(t, q.Add, "c", "a")
	takesNothing(t, q)
	all(t, q.Done, "b", "a", "c")
	tells(t, q, row("a", "c"), nil)
	takes(t, q, "a")
	tells(t, q, row("c"), nil)
}

// P7: Done of what is not in hand does nothing: it waits, it is due, or it is unknown.
func TestDoneOfOthers(t *testing.T) {
	q := made(t)
	all(t, q.Add, "w", "v")
	after(t, q, "d", 2)
	all(t, q.Limited, "f")
	all(t, q.Done, "w", "d", "f", "u")
	tells(t, q, row("w", "v"), due(at(1, "f"), at(2, "d")))
	tick(q, 2)
	all(t, q.Limited, "f")
	tells(t, q, row("w", "v", "f", "d"), due(at(4, "f")))
}
