// Package making makes nodes of an arena's free ones, for the layers whose containers are never written again.
package making

import (
	"slices"

	"burgeon/api"
	"burgeon/arena"
)

// Maker makes nodes of its arena's free ones. It keeps the error of a node that could not be made, so that a call asks for it at its end alone.
type Maker struct {
	api.Arena
	Err api.Errno
}

// Of is a maker of new memory, so that what was handed in stays as it is, and an answer shares nothing with it.
func Of(a api.Arena) *Maker {
	return &Maker{Arena: api.Arena{Nodes: slices.Clone(a.Nodes), Free: slices.Clone(a.Free)}}
}

// Make is the reference of a new node; 0, if none is free, which none is then for those that follow either.
func (m *Maker) Make(n api.Node) api.Ref {
	a, r, err := arena.Make(m.Arena, n)
	if err != api.OK {
		m.Err = err
		return 0
	}
	m.Arena = a
	return r
}

// Answer is what a call answers with the container that it made.
func (m *Maker) Answer(r api.Ref) (api.Arena, api.Ref, api.Errno) {
	if m.Err != api.OK {
		return api.Arena{}, 0, m.Err
	}
	return m.Arena, r, api.OK
}
