package paths

import (
	"iter"
	"slices"
	"strings"
)

// Map has things by path, in the order of the paths. The zero Map has none.
type Map[T any] struct {
	entries []entry[T] // no two of one path, in order
}

type entry[T any] struct {
	path  string
	thing T
}

// Len is how many things there are.
func (m *Map[T]) Len() int { return len(m.entries) }

// Get is the thing at a path; false: there is none.
func (m *Map[T]) Get(path string) (T, bool) {
	at, there := m.find(path)
	if !there {
		var none T
		return none, false
	}
	return m.entries[at].thing, true
}

// Put puts a thing at a path, in the place of what was there.
func (m *Map[T]) Put(path string, thing T) {
	at, there := m.find(path)
	if there {
		m.entries[at].thing = thing
		return
	}
	m.entries = slices.Insert(m.entries, at, entry[T]{path: path, thing: thing})
}

// Delete lets nothing be at a path.
func (m *Map[T]) Delete(path string) {
	if at, there := m.find(path); there {
		m.entries = slices.Delete(m.entries, at, at+1)
	}
}

// Clone is another Map with the same things.
func (m *Map[T]) Clone() *Map[T] { return &Map[T]{entries: slices.Clone(m.entries)} }

// All goes through the things in the order of their paths.
func (m *Map[T]) All() iter.Seq[T] {
	return func(yield func(T) bool) {
		for _, e := range m.entries {
			if !yield(e.thing) {
				return
			}
		}
	}
}

// find is where a path stands, or where it would.
func (m *Map[T]) find(path string) (int, bool) {
	return slices.BinarySearchFunc(m.entries, path, func(e entry[T], path string) int {
		return strings.Compare(e.path, path)
	})
}
