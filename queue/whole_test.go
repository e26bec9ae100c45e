package queue_test

import (
	"math/rand/v2"
	"runtime"
	"slices"
	"strings"
	"testing"
	"unsafe"
	"weak"

	"tender/api"
	"tender/queue"
)

// spoil writes zero values into a list and into its spare room.
func spoil[T any](list []T) { clear(list[:cap(list)]) }

// filled has several keys that wait, and several that are due.
func filled(t *testing.T) *queue.Queue {
	t.Helper()
	q := made(t)
	for _, k := range []string{"x", "a", "b", "c", "d", "e"} {
		all(t, q.Add, k)
		after(t, q, k, 2)
	}
	takes(t, q, "x")
	return q
}

// P2: who writes into a list, or behind it, writes into nobody else's.
func TestListsAreTheCallers(t *testing.T) {
	q := filled(t)
	waits := row("a", "b", "c", "d", "e")
	later := due(at(2, "a"), at(2, "b"), at(2, "c"), at(2, "d"), at(2, "e"), at(2, "x"))
	otherRow, otherDue := q.Told()
	for range 3 {
		aRow, aDue := q.Told()
		spoil(aRow)
		spoil(aDue)
	}
	tells(t, q, waits, later)
	if !slices.Equal(otherRow, waits) || !slices.Equal(otherDue, later) {
		t.Errorf("two lists share memory: %q, %v", otherRow, otherDue)
	}
	all(t, q.Add, "f", "g")
	aRow, aDue := q.Told()
	_, _ = append(aRow, "y"), append(aDue, at(1, "y"))
	all(t, q.Add, "h")
	after(t, q, "h", 9)
	tells(t, q, append(waits, "f", "g", "h"), append(later, at(9, "h")))
	takes(t, q, append(waits, "f", "g", "h")...)
	takesNothing(t, q)
}

// P2: no later call changes a list that came out.
func TestListsStay(t *testing.T) {
	q := filled(t)
	aRow, aDue := q.Told()
	keptRow, keptDue := slices.Clone(aRow), slices.Clone(aDue)
	takes(t, q, "a", "b")
	all(t, q.Add, "z")
	all(t, q.Done, "a")
	after(t, q, "e", 1)
	after(t, q, "y", 1)
	tick(q, 2)
	for _, k := range []string{"q", "r", "s", "t", "u", "v", "w"} {
		all(t, q.Add, k)
		all(t, q.Limited, k)
	}
	if !slices.Equal(aRow, keptRow) || !slices.Equal(aDue, keptDue) {
		t.Errorf("a later call changed a list: %q, %v", aRow, aDue)
	}
}

// P2: queues know nothing of each other.
func TestQueuesAreApart(t *testing.T) {
	p, q := made(t), made(t)
	all(t, p.Add, "a", "b")
	takes(t, p, "a")
	all(t, p.Limited, "a", "a", "b")
	tick(p, 3)
	tells(t, q, nil, nil)
	takesNothing(t, q)
	all(t, q.Add, "a")
	all(t, q.Limited, "a")
	tells(t, q, row("a"), due(at(1, "a")))
	tells(t, p, row("b"), nil)
	tells(t, made(t), nil, nil)
}

// P2: a key that is handed in may be a piece of a long text: the text is not kept, by whichever call.
func TestTextsAreNotKept(t *testing.T) {
	for name := range keyCalls(made(t)) {
		for begin, ready := range states {
			q := made(t)
			ready(t, q)
			text := handPieces(keyCalls(q)[name])
			runtime.GC()
			if text.Value() != nil {
				t.Errorf("%s of a key that %s keeps the caller's text", name, begin)
			}
			runtime.KeepAlive(q)
		}
	}
}

// states bring the key a into each state there is.
var states = map[string]func(*testing.T, *queue.Queue){
	"is unknown": func(*testing.T, *queue.Queue) {},
	"waits":      func(t *testing.T, q *queue.Queue) { all(t, q.Add, "a") },
	"is in hand": func(t *testing.T, q *queue.Queue) {
		all(t, q.Add, "a")
		takes(t, q, "a")
	},
	"is called again": func(t *testing.T, q *queue.Queue) {
		all(t, q.Add, "a")
		takes(t, q, "a")
		all(t, q.Add, "a")
	},
	"is due":     func(t *testing.T, q *queue.Queue) { after(t, q, "a", 5) },
	"has failed": func(t *testing.T, q *queue.Queue) { all(t, q.Limited, "a", "a") },
}

// handPieces calls with the key a, twice, as a piece of a long text that nobody else has.
func handPieces(call func(string) api.Errno) weak.Pointer[byte] {
	text := []byte(strings.Repeat("a", 1<<12))
	call(unsafe.String(&text[0], 1))
	call(unsafe.String(&text[0], 1))
	return weak.Make(&text[0])
}

// walk does any calls on a queue and on a model, and holds them against each other.
type walk struct {
	*testing.T
	r    *rand.Rand
	q    *queue.Queue
	m    *model
	last string
}

func (w *walk) key() string {
	wrong := []string{"", "123456789", "aaaaaaaaaaaa"}
	if w.r.IntN(12) == 0 {
		return wrong[w.r.IntN(len(wrong))]
	}
	right := []string{"a", "b", "c", "aa", "B", "\xff", "12345678", "\x00", w.last}
	return right[w.r.IntN(len(right))]
}

func (w *walk) ticks() int {
	list := []int{1, 2, 3, 0, 5, 7, 12, -1, 40, 1000, 1001, least, most}
	return list[w.r.IntN(1+w.r.IntN(len(list)))]
}

// both: what the model does with a key that is right, the queue does too, and of a wrong one it says so.
func (w *walk) both(key string, call func(string) api.Errno, should func(string)) {
	w.Helper()
	want := api.ErrInvalid
	if len(key) >= 1 && len(key) <= 8 {
		want = api.OK
		should(key)
	}
	if err := call(key); err != want {
		w.Fatalf("a call with %q: %d, want %d", key, err, want)
	}
}

func (w *walk) step() {
	w.Helper()
	switch w.r.IntN(9) {
	case 0, 1:
		w.both(w.key(), w.q.Add, w.m.add)
	case 2:
		n := w.ticks()
		w.both(w.key(), func(k string) api.Errno { return w.q.After(k, n) }, func(k string) { w.m.after(k, n) })
	case 3:
		w.both(w.key(), w.q.Limited, w.m.limited)
	case 4:
		w.both(w.key(), w.q.Forget, func(k string) { w.m.of(k).failed = 0 })
	case 5, 6:
		w.take()
	case 7:
		w.both(w.key(), w.q.Done, w.m.done)
	case 8:
		w.q.Tick()
		w.m.tick()
	}
}

func (w *walk) take() {
	w.Helper()
	key, ok := w.q.Take()
	want, wantOK := w.m.take()
	if key != want || ok != wantOK {
		w.Fatalf("Take() = %q, %v, want %q, %v", key, ok, want, wantOK)
	}
	w.last = key
}

// P1, P2, P7, P8: whatever is called, a queue is what the document says of each key, and lists that were written over are nobody else's.
func TestAnyCalls(t *testing.T) {
	for seed := range uint64(40) {
		w := &walk{T: t, r: rand.New(rand.NewPCG(seed, 2)), q: made(t), m: newModel()}
		for range 1500 {
			w.step()
			wantRow, wantDue := w.m.told()
			gotRow, gotDue := w.q.Told()
			if !slices.Equal(gotRow, wantRow) || !slices.Equal(gotDue, wantDue) {
				t.Fatalf("seed %d: Told() = %q, %v, want %q, %v", seed, gotRow, gotDue, wantRow, wantDue)
			}
			spoil(gotRow)
			spoil(gotDue)
		}
	}
}

// P1: many keys are as good as few.
func TestManyKeys(t *testing.T) {
	q, m := made(t), newModel()
	for i := range 3000 {
		key := strings.Repeat(string(rune('a'+i%26)), 1+i/26%8) + string(rune('A'+i%7))
		if len(key) > 8 {
			key = key[1:]
		}
		all(t, q.Add, key)
		m.add(key)
		after(t, q, key, i%50)
		m.after(key, i%50)
	}
	tick(q, 60)
	for range 60 {
		m.tick()
	}
	wantRow, wantDue := m.told()
	tells(t, q, wantRow, wantDue)
	takes(t, q, wantRow...)
	takesNothing(t, q)
}
