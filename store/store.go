// Package store: objects with versions, and the events that writes leave: see DOC.md.
package store

import (
	"slices"
	"strconv"
	"strings"

	"tender/api"
	"tender/objects"
)

// Store is a store.
type Store struct {
	limit   int
	version int
	created int
	objects map[objects.Key]api.Object
	// Every version has left just one event, so the event of a version lies at
	// its remainder, and a new one takes the place of the one too old to keep.
	log [api.MaxLog]api.Event
}

// New makes a store (P3).
func New(limit int) (*Store, api.Errno) {
	if limit < 1 || limit > api.MaxObjects {
		return nil, api.ErrInvalid
	}
	return &Store{limit: limit, objects: map[objects.Key]api.Object{}}, api.OK
}

// Create lets an object join (P3).
func (s *Store) Create(o api.Object) (api.Object, api.Errno) {
	if err := s.mayCreate(o); err != api.OK {
		return api.Object{}, err
	}
	s.created++
	o.Uid = s.created
	o.Gone = false
	o.Name = ownName(o)
	return s.keep(api.Added, o), api.OK
}

// Get tells an object (P4).
func (s *Store) Get(kind uint8, name string) (api.Object, api.Errno) {
	o, ok := s.objects[objects.Key{Kind: kind, Name: name}]
	if !ok {
		return api.Object{}, api.ErrMissing
	}
	return o, api.OK
}

// List tells all objects of a kind, and the version (P4).
func (s *Store) List(kind uint8) ([]api.Object, int) {
	var list []api.Object
	for k, o := range s.objects {
		if k.Kind == kind {
			list = append(list, o)
		}
	}
	slices.SortFunc(list, objects.InOrder)
	return list, s.version
}

// Update turns an object (P5).
func (s *Store) Update(o api.Object) (api.Object, api.Errno) {
	if !rightToUpdate(o) {
		return api.Object{}, api.ErrInvalid
	}
	was, err := s.forWriting(o.Kind, o.Name)
	if err != api.OK {
		return api.Object{}, err
	}
	if isOther(o.Uid, was.Uid) || isOther(o.Version, was.Version) {
		return api.Object{}, api.ErrConflict
	}
	is := was
	if o.Kind == api.Set {
		is.Replicas, is.Status = o.Replicas, o.Status
	} else {
		is.Phase = o.Phase
	}
	return s.turn(was, is), api.OK
}

// Mark says that a pod is to be removed (P5).
func (s *Store) Mark(name string) (api.Object, api.Errno) {
	was, err := s.forWriting(api.Pod, name)
	if err != api.OK {
		return api.Object{}, err
	}
	is := was
	is.Gone = true
	return s.turn(was, is), api.OK
}

// Remove takes an object away (P5).
func (s *Store) Remove(kind uint8, name string, version int) (api.Object, api.Errno) {
	o, err := s.forWriting(kind, name)
	if err != api.OK {
		return api.Object{}, err
	}
	if isOther(version, o.Version) {
		return api.Object{}, api.ErrConflict
	}
	delete(s.objects, objects.Key{Kind: kind, Name: name})
	return s.leaveEvent(api.Deleted, o), api.OK
}

// Since tells the events behind a version (P6).
func (s *Store) Since(version int, most int) ([]api.Event, api.Errno) {
	if version < 0 || version > s.version || most < 0 {
		return nil, api.ErrInvalid
	}
	if version < s.version-api.MaxLog {
		return nil, api.ErrOld
	}
	n := min(most, s.version-version)
	events := make([]api.Event, n)
	for i := range n {
		events[i] = s.log[(version+1+i)%api.MaxLog]
	}
	return events, api.OK
}

func (s *Store) mayCreate(o api.Object) api.Errno {
	if !rightToCreate(o) {
		return api.ErrInvalid
	}
	if s.version == api.MaxVersion {
		return api.ErrExhausted
	}
	if _, ok := s.objects[objects.KeyOf(o)]; ok {
		return api.ErrExists
	}
	if len(s.objects) == s.limit {
		return api.ErrFull
	}
	return api.OK
}

// forWriting finds the object of a write. It stands apart from Get because
// that no version is left is told even where there is no such object.
func (s *Store) forWriting(kind uint8, name string) (api.Object, api.Errno) {
	if s.version == api.MaxVersion {
		return api.Object{}, api.ErrExhausted
	}
	return s.Get(kind, name)
}

// turn spends no version on a write that changes nothing.
func (s *Store) turn(was, is api.Object) api.Object {
	if is == was {
		return was
	}
	return s.keep(api.Modified, is)
}

func (s *Store) keep(sort uint8, o api.Object) api.Object {
	o = s.leaveEvent(sort, o)
	s.objects[objects.KeyOf(o)] = o
	return o
}

func (s *Store) leaveEvent(sort uint8, o api.Object) api.Object {
	s.version++
	o.Version = s.version
	s.log[s.version%api.MaxLog] = api.Event{Sort: sort, Object: o}
	return o
}

// ownName copies the name of a set, because it may be a piece of a long text
// of the caller's, which the store has no business to hold on to.
func ownName(o api.Object) string {
	if o.Kind == api.Pod {
		return "p" + strconv.Itoa(o.Uid)
	}
	return strings.Clone(o.Name)
}

// isOther: 0 asks for whichever there is.
func isOther(asked, is int) bool { return asked != 0 && asked != is }
