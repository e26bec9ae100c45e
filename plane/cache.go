package plane

import (
	"maps"
	"slices"

	"tender/api"
	"tender/objects"
)

// cache is what is seen of the store: late, and in pieces.
type cache struct {
	objects map[objects.Key]api.Object
	version int
	listed  bool
}

// notice is an event that was taken in, with the object as it was in the cache
// ahead of that (zero, if it was not there).
type notice struct {
	event api.Event
	was   api.Object
}

func unlisted() cache { return cache{objects: map[objects.Key]api.Object{}} }

func (c *cache) told() []api.Object {
	return slices.SortedFunc(maps.Values(c.objects), objects.InOrder)
}

func (c *cache) takeIn(e api.Event) notice {
	key := objects.KeyOf(e.Object)
	n := notice{event: e, was: c.objects[key]}
	if e.Sort == api.Deleted {
		delete(c.objects, key)
	} else {
		c.objects[key] = e.Object
	}
	return n
}

// missed tells by which events the cache comes to have these objects.
func (c *cache) missed(are []api.Object) []api.Event {
	var events []api.Event
	stay := map[objects.Key]int{}
	for _, is := range are {
		stay[objects.KeyOf(is)] = is.Uid
	}
	for key, was := range c.objects {
		if stay[key] != was.Uid {
			events = append(events, api.Event{Sort: api.Deleted, Object: was})
		}
	}
	for _, is := range are {
		was := c.objects[objects.KeyOf(is)]
		if was.Uid != is.Uid {
			events = append(events, api.Event{Sort: api.Added, Object: is})
		} else if was.Version != is.Version {
			events = append(events, api.Event{Sort: api.Modified, Object: is})
		}
	}
	// A set that was made again is Deleted ahead of Added: they have one place in the order.
	slices.SortStableFunc(events, func(a, b api.Event) int { return objects.InOrder(a.Object, b.Object) })
	return events
}

// setOf tells the name of the set with a Uid.
func (c *cache) setOf(uid int) (string, bool) {
	for _, o := range c.objects {
		if o.Kind == api.Set && o.Uid == uid {
			return o.Name, true
		}
	}
	return "", false
}

// liveOf tells the live pods of the set with a Uid, in no order.
func (c *cache) liveOf(uid int) []api.Object {
	var live []api.Object
	for _, o := range c.objects {
		if o.Kind == api.Pod && o.Owner == uid && isLive(o) {
			live = append(live, o)
		}
	}
	return live
}
