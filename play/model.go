package play

import (
	"felucca/api"
	"felucca/bundle"
	"felucca/state"
)

// model tells by its state alone: all routes are looked for anew.
type model struct {
	state api.State
}

func newModel() *model {
	return &model{state: state.New()}
}

// Load tells what state's Load tells.
func (m *model) Load(t string) api.Fault {
	var f api.Fault
	m.state, f = state.Load(m.state, t)
	return f
}

// Edit tells what state's Edit tells.
func (m *model) Edit(d api.Directive) api.Errno {
	var code api.Errno
	m.state, code = state.Edit(m.state, d)
	return code
}

// Advance tells what state's Advance tells.
func (m *model) Advance(now int) api.Errno {
	var code api.Errno
	m.state, code = state.Advance(m.state, now)
	return code
}

// Book tells what state's Book tells.
func (m *model) Book(ids []int, class, size int) api.Errno {
	var code api.Errno
	m.state, code = state.Book(m.state, ids, class, size)
	return code
}

// Release tells what state's Release tells.
func (m *model) Release(ids []int, class, size int) api.Errno {
	var code api.Errno
	m.state, code = state.Release(m.state, ids, class, size)
	return code
}

// Route tells what bundle's Route tells.
func (m *model) Route(b api.Bundle) (api.Route, api.Errno) {
	return bundle.Route(m.state.Plan, m.state.Booked, b)
}

// List tells what bundle's List tells.
func (m *model) List(from, to, k int) ([]api.Route, api.Errno) {
	return bundle.List(m.state.Plan, from, to, k)
}

// State is the state itself: it is asked for last.
func (m *model) State() api.State {
	return m.state
}
