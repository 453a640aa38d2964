package control_test

import (
	"testing"

	"stampways/api"
	"stampways/control"
)

// TestDrop: G2 and G3, of controls that are calm.
func TestDrop(t *testing.T) {
	one, other := planOf(ring, 4, flow(0, 3, 2), flow(3, 1)), planOf(ring, 5, flow(1, 0))
	long := planOf(ring, 1000, flow(1, 3))
	for _, c := range []struct {
		what string
		c    api.Control
		want answer
	}{
		{"where the elder plan has rules", api.Control{Stage: api.Calm, Now: one, Next: other, Number: 6},
			answer{c: api.Control{Stage: api.Dropping, Now: one, Next: other, Number: 9, Waits: []int{7, 8, 9}}, told: []api.To{
				drop(0, 7, 4), drop(2, 8, 4), drop(3, 9, 4)}}},
		{"where a path ends there are none", api.Control{Stage: api.Calm, Now: long, Next: other},
			answer{c: api.Control{Stage: api.Dropping, Now: long, Next: other, Number: 2, Waits: []int{1, 2}}, told: []api.To{
				drop(1, 1, 1000), drop(2, 2, 1000)}}},
		{"behind what is waited for", api.Control{Stage: api.Calm, Now: other, Next: one, Number: 6, Waits: []int{2, 9}},
			answer{c: api.Control{Stage: api.Dropping, Now: other, Next: one, Number: 7, Waits: []int{2, 9, 7}}, told: []api.To{drop(1, 7, 5)}}},
		{"for no plan that is next", api.Control{Stage: api.Calm, Now: other},
			answer{c: api.Control{Stage: api.Dropping, Now: other, Number: 1, Waits: []int{1}}, told: []api.To{drop(1, 1, 5)}}},

		{"there was none", api.Control{Stage: api.Calm, Next: other, Number: 6}, answer{c: api.Control{Now: other, Number: 6}}},
		{"it had no flows", api.Control{Stage: api.Calm, Now: planOf(ring, 7), Next: other, Number: 6}, answer{c: api.Control{Now: other, Number: 6}}},
		{"there was none, but something is waited for", api.Control{Stage: api.Calm, Next: other, Number: 6, Waits: []int{6}},
			answer{c: api.Control{Stage: api.Dropping, Next: other, Number: 6, Waits: []int{6}}}},
		{"nothing at all", api.Control{Stage: api.Calm}, answer{}},
	} {
		hold(t, c.what, answerOf(control.Drop(c.c, ring)), c.want)
	}
}

func TestDropErrors(t *testing.T) {
	for _, stage := range []int{-1, api.Idle, api.Adding, api.Stamping, api.Dropping, 5} {
		for _, waits := range [][]int{nil, {1}} {
			c := api.Control{Stage: stage, Now: planOf(line, 1, flow(0, 2)), Next: planOf(line, 2), Number: 1, Waits: waits}
			hold(t, "not calm", answerOf(control.Drop(c, line)), answer{err: api.ErrBusy})
			for err, n := range wrongNets() {
				hold(t, "a wrong net ahead of busy", answerOf(control.Drop(c, n)), answer{err: err})
			}
		}
	}
	for err, n := range wrongNets() {
		c := api.Control{Stage: api.Calm, Now: planOf(line, 1, flow(0, 2)), Next: planOf(line, 2), Number: 1}
		hold(t, "a wrong net", answerOf(control.Drop(c, n)), answer{err: err})
	}
}
