// Package objects: what an object is called by, and the order in which objects are told: see DOC.md.
package objects

import (
	"cmp"
	"strings"

	"tender/api"
)

// Key is what an object is called by.
type Key struct {
	Kind uint8
	Name string
}

// KeyOf tells what an object is called by.
func KeyOf(o api.Object) Key { return Key{o.Kind, o.Name} }

// InOrder compares two objects as they are told: sets ahead of pods, sets by
// their names. It looks at Uids of pods, because p10 is told behind p2.
func InOrder(a, b api.Object) int {
	if a.Kind != b.Kind {
		return cmp.Compare(a.Kind, b.Kind)
	}
	if a.Kind == api.Pod {
		return cmp.Compare(a.Uid, b.Uid)
	}
	return strings.Compare(a.Name, b.Name)
}
