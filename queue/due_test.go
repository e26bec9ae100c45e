package queue_test

import (
	"testing"

	"tender/api"
)

// P8: with 0 ticks or less a key is added at once.
func TestAfterAtOnce(t *testing.T) {
	q := made(t)
	all(t, q.Add, "h")
	takes(t, q, "h")
	after(t, q, "c", 0)
	after(t, q, "b", -1)
	after(t, q, "a", least)
	after(t, q, "c", -1000)
	after(t, q, "h", 0)
	tells(t, q, row("c", "b", "a"), nil)
	all(t, q.Done, "h")
	tells(t, q, row("c", "b", "a", "h"), nil)
}

// P8: it is added at once, and due all the same if it was.
func TestAfterAtOnceWhenDue(t *testing.T) {
	q := made(t)
	after(t, q, "a", 3)
	after(t, q, "a", 0)
	tells(t, q, row("a"), due(at(3, "a")))
}

// P8: a key is due as many ticks on as are asked for, at most 1000.
func TestAfterTicks(t *testing.T) {
	for _, c := range []struct{ ticks, on int }{{1, 1}, {2, 2}, {999, 999}, {1000, 1000}, {1001, 1000}, {5000, 1000}, {most, 1000}} {
		for _, clock := range []int{0, 7, 1500} {
			q := made(t)
			tick(q, clock)
			after(t, q, "a", c.ticks)
			tells(t, q, nil, due(at(clock+c.on, "a")))
			tick(q, c.on-1)
			tells(t, q, nil, due(at(clock+c.on, "a")))
			q.Tick()
			tells(t, q, row("a"), nil)
			tick(q, 3)
			tells(t, q, row("a"), nil)
		}
	}
}

// P8: of two ticks at which a key would be due the earlier one counts, whichever was asked for first.
func TestAfterTwice(t *testing.T) {
	q := made(t)
	after(t, q, "a", 5)
	after(t, q, "a", 6)
	tells(t, q, nil, due(at(5, "a")))
	after(t, q, "a", 5)
	tells(t, q, nil, due(at(5, "a")))
	after(t, q, "a", 4)
	tells(t, q, nil, due(at(4, "a")))
	tick(q, 2)
	after(t, q, "a", 3)
	tells(t, q, nil, due(at(4, "a")))
	after(t, q, "a", 1)
	tells(t, q, nil, due(at(3, "a")))
	after(t, q, "a", most)
	tells(t, q, nil, due(at(3, "a")))
	q.Tick()
	tells(t, q, row("a"), nil)
	tick(q, 5)
	tells(t, q, row("a"), nil)
	after(t, q, "a", 9)
	tells(t, q, row("a"), due(at(17, "a")))
}

// P8: keys that are due at one tick are added byte by byte, behind those that wait.
func TestTickInOrder(t *testing.T) {
	q := made(t)
	all(t, q.Add, "x")
	for _, k := range []string{"b", "\xff", "aa", "B", "a", "ab", "\x00", "é", "10", "9", "a\x00"} {
		after(t, q, k, 2)
	}
	after(t, q, "z", 1)
	after(t, q, "A", 3)
	order := row("\x00", "10", "9", "B", "a", "a\x00", "aa", "ab", "b", "é", "\xff")
	later := due(at(1, "z"))
	for _, k := range order {
		later = append(later, at(2, k))
	}
	tells(t, q, row("x"), append(later, at(3, "A")))
	q.Tick()
	tells(t, q, row("x", "z"), append(later[1:], at(3, "A")))
	q.Tick()
	tells(t, q, append(row("x", "z"), order...), due(at(3, "A")))
	q.Tick()
	tells(t, q, append(append(row("x", "z"), order...), "A"), nil)
}

// P8: what is due is told by the ticks first, and by the keys then.
func TestToldInOrder(t *testing.T) {
	q := made(t)
	for i, k := range []string{"h", "g", "f", "e", "d", "c", "b", "a"} {
		after(t, q, k, 1+i/2)
	}
	tells(t, q, nil, due(at(1, "g"), at(1, "h"), at(2, "e"), at(2, "f"), at(3, "c"), at(3, "d"), at(4, "a"), at(4, "b")))
}

// P8: a key that waits when it is due keeps its place.
func TestDueWhileWaiting(t *testing.T) {
	q := made(t)
	all(t, q.Add, "b", "a")
	after(t, q, "b", 1)
	tells(t, q, row("b", "a"), due(at(1, "b")))
	q.Tick()
	tells(t, q, row("b", "a"), nil)
	takes(t, q, "b", "a")
	takesNothing(t, q)
}

// P8: a key that is in hand when it is due is called again.
func TestDueWhileInHand(t *testing.T) {
	q := made(t)
	all(t, q.Add, "a", "b")
	takes(t, q, "a")
	after(t, q, "a", 1)
	tells(t, q, row("b"), due(at(1, "a")))
	q.Tick()
	tells(t, q, row("b"), nil)
	all(t, q.Done, "a")
	tells(t, q, row("b", "a"), nil)
	takes(t, q, "b", "a")
	all(t, q.Done, "a", "b")
	tells(t, q, nil, nil)
}

// P8: a key that is due stays so, whether it is taken or done meanwhile.
func TestDueBesides(t *testing.T) {
	q := made(t)
	after(t, q, "a", 2)
	all(t, q.Add, "a")
	takes(t, q, "a")
	tells(t, q, nil, due(at(2, "a")))
	all(t, q.Done, "a")
	all(t, q.Forget, "a")
	tells(t, q, nil, due(at(2, "a")))
	tick(q, 2)
	tells(t, q, row("a"), nil)
}

// P8: each failure doubles the wait, up to 8 ticks, and so it stays.
func TestLimited(t *testing.T) {
	q := made(t)
	clock := 0
	for _, on := range []int{1, 2, 4, 8, 8, 8, 8} {
		all(t, q.Limited, "a")
		tells(t, q, nil, due(at(clock+on, "a")))
		tick(q, on)
		clock += on
		takes(t, q, "a")
		all(t, q.Done, "a")
	}
}

// P8 and the example: while it is due the earliest counts, and each time it has failed once more.
func TestLimitedWhileDue(t *testing.T) {
	q := made(t)
	all(t, q.Limited, "a", "a", "a")
	tells(t, q, nil, due(at(1, "a")))
	q.Tick()
	tells(t, q, row("a"), nil)
	all(t, q.Limited, "a")
	tells(t, q, row("a"), due(at(9, "a")))
}

// P8: however often it has failed, the wait is 8.
func TestLimitedVeryOften(t *testing.T) {
	for _, n := range []int{3, 4, 5, 31, 32, 33, 62, 63, 64, 65, 255, 256, 257, 1 << 16} {
		q := made(t)
		for range n {
			if err := q.Limited("a"); err != api.OK {
				t.Fatalf("Limited: %d", err)
			}
		}
		tells(t, q, nil, due(at(1, "a")))
		q.Tick()
		all(t, q.Limited, "a")
		tells(t, q, row("a"), due(at(9, "a")))
		all(t, q.Forget, "a")
		tick(q, 8)
		all(t, q.Limited, "a")
		tells(t, q, row("a"), due(at(10, "a")))
	}
}

// P8: a key waits by its own failures, not by another's.
func TestLimitedApart(t *testing.T) {
	q := made(t)
	all(t, q.Limited, "a", "a", "b")
	q.Tick()
	all(t, q.Limited, "a", "b", "c")
	tells(t, q, row("a", "b"), due(at(2, "c"), at(3, "b"), at(5, "a")))
}

// P8: After is no failure.
func TestAfterIsNoFailure(t *testing.T) {
	q := made(t)
	after(t, q, "a", 1)
	after(t, q, "a", 0)
	q.Tick()
	all(t, q.Limited, "a")
	tells(t, q, row("a"), due(at(2, "a")))
}

// P8: who is forgotten has not failed; it waits, is in hand and is due as before.
func TestForget(t *testing.T) {
	q := made(t)
	all(t, q.Limited, "a", "a", "a", "b", "b")
	all(t, q.Add, "h", "c", "w")
	takes(t, q, "h", "c")
	all(t, q.Add, "c")
	all(t, q.Forget, "a", "w", "h", "c", "u")
	tells(t, q, row("w"), due(at(1, "a"), at(1, "b")))
	q.Tick()
	all(t, q.Limited, "a", "b")
	tells(t, q, row("w", "a", "b"), due(at(2, "a"), at(5, "b")))
	tick(q, 1)
	all(t, q.Limited, "a")
	all(t, q.Add, "h")
	all(t, q.Done, "h", "c")
	tells(t, q, row("w", "a", "b", "h", "c"), due(at(4, "a"), at(5, "b")))
}

// P8: a key that was taken, done or added has failed as often as before.
func TestFailuresStay(t *testing.T) {
	q := made(t)
	all(t, q.Limited, "a", "a")
	q.Tick()
	takes(t, q, "a")
	all(t, q.Add, "a")
	all(t, q.Done, "a")
	takes(t, q, "a")
	all(t, q.Done, "a")
	all(t, q.Limited, "a")
	tells(t, q, nil, due(at(5, "a")))
}
