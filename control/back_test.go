package control_test

import (
	"math"
	"testing"

	"stampways/api"
	"stampways/control"
)

// TestBack: G2 and G3, of numbers that are waited for.
func TestBack(t *testing.T) {
	one, other := planOf(ring, 4, flow(0, 3), flow(3, 2)), planOf(ring, 5, flow(2, 0), flow(0, 1), flow(2, 3))
	is := func(stage, number int, waits ...int) api.Control {
		return api.Control{Stage: stage, Now: one, Next: other, Number: number, Waits: waits}
	}
	stamps := []api.To{stamp(0, 8, 5, 1), stamp(2, 9, 5, 0, 2), stamp(3, 10, 5)}
	for _, c := range []struct {
		what   string
		c      api.Control
		number int
		want   answer
	}{
		{"the first one", is(api.Adding, 7, 5, 6, 7), 5, answer{c: is(api.Adding, 7, 6, 7)}},
		{"one between others", is(api.Adding, 7, 5, 6, 7), 6, answer{c: is(api.Adding, 7, 5, 7)}},
		{"the last one", is(api.Stamping, 7, 5, 6, 7), 7, answer{c: is(api.Stamping, 7, 5, 6)}},
		{"one that is waited for twice", is(api.Dropping, 7, 6, 5, 7, 5), 5, answer{c: is(api.Dropping, 7, 6, 7, 5)}},
		{"one that stands twice, and no other", is(api.Adding, 7, 5, 5), 5, answer{c: is(api.Adding, 7, 5)}},
		{"a number that was never told", is(api.Adding, 7, -3, 0, math.MaxInt), 0, answer{c: is(api.Adding, 7, -3, math.MaxInt)}},

		{"rules first, stamps then", is(api.Adding, 7, 7), 7, answer{c: is(api.Stamping, 10, 8, 9, 10), told: stamps}},
		{"the next number is not that of what is waited for", is(api.Adding, 7, 3), 3, answer{c: is(api.Stamping, 10, 8, 9, 10), told: stamps}},
		{"stamps, and it is calm", is(api.Stamping, 7, 7), 7, answer{c: is(api.Calm, 7)}},
		{"dropped, and it is idle", is(api.Dropping, 7, 7), 7, answer{c: api.Control{Now: other, Number: 7}}},
		{"calm stays", is(api.Calm, 7, 7), 7, answer{c: is(api.Calm, 7)}},
		{"idle stays", is(api.Idle, 7, 7), 7, answer{c: is(api.Idle, 7)}},
		{"no such stage stays", is(5, 7, 7), 7, answer{c: is(5, 7)}},
		{"no such stage stays, below 0", is(-1, 7, 7), 7, answer{c: is(-1, 7)}},

		{"nothing begins", api.Control{Stage: api.Adding, Next: planOf(ring, 1), Number: 1, Waits: []int{1}}, 1,
			answer{c: api.Control{Stage: api.Calm, Next: planOf(ring, 1), Number: 1}}},
		{"nothing begins any more", api.Control{Stage: api.Adding, Now: one, Next: planOf(ring, 5), Number: 1, Waits: []int{1}}, 1,
			answer{c: api.Control{Stage: api.Stamping, Now: one, Next: planOf(ring, 5), Number: 3, Waits: []int{2, 3}}, told: []api.To{stamp(0, 2, 5), stamp(3, 3, 5)}}},
		{"nothing began", api.Control{Stage: api.Adding, Next: one, Number: 1, Waits: []int{1}}, 1,
			answer{c: api.Control{Stage: api.Stamping, Next: one, Number: 3, Waits: []int{2, 3}}, told: []api.To{stamp(0, 2, 4, 0), stamp(3, 3, 4, 1)}}},
		{"dropped, and there is none", api.Control{Stage: api.Dropping, Now: one, Number: 1, Waits: []int{1}}, 1, answer{c: api.Control{Number: 1}}},
	} {
		hold(t, c.what, answerOf(control.Back(c.c, ring, c.number)), c.want)
	}
}

func TestBackErrors(t *testing.T) {
	for stage := range 6 {
		for _, c := range []struct {
			waits  []int
			number int
		}{
			{nil, 1}, {nil, 0}, {[]int{}, 3}, {[]int{3}, 2}, {[]int{3}, 4}, {[]int{1, 3}, 2}, {[]int{1, 3}, -1}, {[]int{1, 3}, -3}, {[]int{1}, math.MinInt}, {[]int{1}, math.MaxInt},
		} {
			is := api.Control{Stage: stage, Now: planOf(line, 1, flow(0, 2)), Next: planOf(line, 2), Number: 4, Waits: c.waits}
			hold(t, "not waited for", answerOf(control.Back(is, line, c.number)), answer{err: api.ErrNone})
			for err, n := range wrongNets() {
				hold(t, "a wrong net ahead of what is not waited for", answerOf(control.Back(is, n, c.number)), answer{err: err})
			}
		}
		for err, n := range wrongNets() {
			hold(t, "a wrong net", answerOf(control.Back(api.Control{Stage: stage, Number: 1, Waits: []int{1}}, n, 1)), answer{err: err})
		}
	}
}
