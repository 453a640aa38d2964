package control_test

import (
	"math"
	"slices"
	"testing"

	"stampways/api"
	"stampways/control"
	"stampways/paths"
)

func link(a, b, cost int) api.Link { return api.Link{A: a, B: b, Cost: cost} }

func net(switches int, links ...api.Link) api.Topo {
	return api.Topo{Switches: switches, Links: links}
}

func flow(from, to int, not ...int) api.Flow { return api.Flow{From: from, To: to, Not: not} }

var (
	two  = net(2, link(0, 1, 1))
	line = net(3, link(0, 1, 1), link(1, 2, 1))
	ring = net(4, link(0, 1, 1), link(1, 2, 1), link(2, 3, 1), link(3, 0, 5))
)

// planOf is a plan with which nothing is wrong.
func planOf(n api.Topo, version int, l ...api.Flow) api.Plan {
	plan, fault := paths.Plan(n, version, l)
	if fault.Err != api.OK {
		panic("a test's own plan is none")
	}
	return plan
}

// answer is all that a call tells.
type answer struct {
	c    api.Control
	told []api.To
	err  api.Errno
}

func answerOf(c api.Control, told []api.To, err api.Errno) answer { return answer{c, told, err} }

func add(s, number, version int, l ...api.Rule) api.To {
	return api.To{Switch: s, Order: api.Order{Kind: api.OrderAdd, Number: number, Version: version, Rules: l}}
}

func stamp(s, number, version int, l ...int) api.To {
	return api.To{Switch: s, Order: api.Order{Kind: api.OrderStamp, Number: number, Version: version, Flows: l}}
}

func drop(s, number, version int) api.To {
	return api.To{Switch: s, Order: api.Order{Kind: api.OrderDrop, Number: number, Version: version}}
}

func rule(version, flow, next int) api.Rule {
	return api.Rule{Version: version, Flow: flow, Next: next}
}

func sameFlow(f, g api.Flow) bool {
	return f.From == g.From && f.To == g.To && slices.Equal(f.Via, g.Via) && slices.Equal(f.Not, g.Not)
}

func samePath(p, q api.Path) bool { return slices.Equal(p, q) }

func samePlan(p, q api.Plan) bool {
	return p.Version == q.Version && slices.EqualFunc(p.Flows, q.Flows, sameFlow) && slices.EqualFunc(p.Paths, q.Paths, samePath)
}

func sameControl(a, b api.Control) bool {
	return a.Stage == b.Stage && samePlan(a.Now, b.Now) && samePlan(a.Next, b.Next) && a.Number == b.Number && slices.Equal(a.Waits, b.Waits)
}

func sameTo(a, b api.To) bool {
	return a.Switch == b.Switch && a.Order.Kind == b.Order.Kind && a.Order.Number == b.Order.Number && a.Order.Version == b.Order.Version &&
		slices.Equal(a.Order.Rules, b.Order.Rules) && slices.Equal(a.Order.Flows, b.Order.Flows)
}

// same holds answers against each other; lists without entries are the same.
func same(a, b answer) bool {
	return a.err == b.err && sameControl(a.c, b.c) && slices.EqualFunc(a.told, b.told, sameTo)
}

func hold(t *testing.T, what string, got, want answer) {
	t.Helper()
	if !same(got, want) {
		t.Errorf("%s: %v, not %v", what, got, want)
	}
}

// wrongNets are nets with which something is wrong, and what.
func wrongNets() map[api.Errno]api.Topo {
	return map[api.Errno]api.Topo{
		api.ErrMany:  net(0),
		api.ErrNone:  net(3, link(0, 1, 1), link(0, 3, 1)),
		api.ErrFit:   net(3, link(0, 1, 1), link(2, 2, 1)),
		api.ErrRange: net(3, link(0, 1, 1), link(1, 2, 1001)),
		api.ErrName:  net(3, link(0, 1, 1), link(1, 0, 1)),
	}
}

// TestOneAfterTheOther plays two changes of a ring through all stages, each order told back as soon as it is waited for.
func TestOneAfterTheOther(t *testing.T) {
	first := []api.Flow{flow(0, 3), flow(2, 1)}
	second := []api.Flow{flow(1, 0), flow(0, 3, 1), flow(1, 2)}
	one, other, last := planOf(ring, 1, first...), planOf(ring, 2, second...), planOf(ring, 3)
	var c api.Control
	ask := func(l []api.Flow) func() answer { return func() answer { return answerOf(control.Ask(c, ring, l)) } }
	back := func(number int) func() answer {
		return func() answer { return answerOf(control.Back(c, ring, number)) }
	}
	end := func() answer { return answerOf(control.Drop(c, ring)) }
	is := func(stage int, now, next api.Plan, number int, waits ...int) api.Control {
		return api.Control{Stage: stage, Now: now, Next: next, Number: number, Waits: waits}
	}
	for i, step := range []struct {
		do   func() answer
		c    api.Control
		told []api.To
	}{
		{ask(first), is(api.Adding, api.Plan{}, one, 3, 1, 2, 3), []api.To{
			add(0, 1, 1, rule(1, 0, 1)), add(1, 2, 1, rule(1, 0, 2)), add(2, 3, 1, rule(1, 0, 3), rule(1, 1, 1))}},
		{back(2), is(api.Adding, api.Plan{}, one, 3, 1, 3), nil},
		{back(3), is(api.Adding, api.Plan{}, one, 3, 1), nil},
		{back(1), is(api.Stamping, api.Plan{}, one, 5, 4, 5), []api.To{stamp(0, 4, 1, 0), stamp(2, 5, 1, 1)}},
		{back(4), is(api.Stamping, api.Plan{}, one, 5, 5), nil},
		{back(5), is(api.Calm, api.Plan{}, one, 5), nil},
		{end, is(api.Idle, one, api.Plan{}, 5), nil}, // there is no elder plan
		{ask(second), is(api.Adding, one, other, 7, 6, 7), []api.To{
			add(0, 6, 2, rule(2, 1, 3)), add(1, 7, 2, rule(2, 0, 0), rule(2, 2, 2))}},
		{back(6), is(api.Adding, one, other, 7, 7), nil},
		{back(7), is(api.Stamping, one, other, 10, 8, 9, 10), []api.To{stamp(0, 8, 2, 1), stamp(1, 9, 2, 0, 2), stamp(2, 10, 2)}},
		{back(9), is(api.Stamping, one, other, 10, 8, 10), nil},
		{back(8), is(api.Stamping, one, other, 10, 10), nil},
		{back(10), is(api.Calm, one, other, 10), nil},
		{end, is(api.Dropping, one, other, 13, 11, 12, 13), []api.To{drop(0, 11, 1), drop(1, 12, 1), drop(2, 13, 1)}},
		{back(13), is(api.Dropping, one, other, 13, 11, 12), nil},
		{back(11), is(api.Dropping, one, other, 13, 12), nil},
		{back(12), is(api.Idle, other, api.Plan{}, 13), nil},
		{ask(nil), is(api.Stamping, other, last, 15, 14, 15), []api.To{stamp(0, 14, 3), stamp(1, 15, 3)}}, // no rules are added
		{back(14), is(api.Stamping, other, last, 15, 15), nil},
		{back(15), is(api.Calm, other, last, 15), nil},
		{end, is(api.Dropping, other, last, 17, 16, 17), []api.To{drop(0, 16, 2), drop(1, 17, 2)}},
		{back(16), is(api.Dropping, other, last, 17, 17), nil},
		{back(17), is(api.Idle, last, api.Plan{}, 17), nil},
		{ask(nil), is(api.Calm, last, planOf(ring, 4), 17), nil},
		{end, is(api.Idle, planOf(ring, 4), api.Plan{}, 17), nil},
	} {
		got := step.do()
		if want := (answer{step.c, step.told, api.OK}); !same(got, want) {
			t.Fatalf("step %d: %v, not %v", i, got, want)
		}
		c = got.c
	}
}

// TestNothingIsChangedHalf: what comes at the wrong time is refused in every stage but its own.
func TestNothingIsChangedHalf(t *testing.T) {
	one, other := planOf(line, 1, flow(0, 2)), planOf(line, 2, flow(2, 0))
	for _, stage := range []int{math.MinInt, -1, api.Idle, api.Adding, api.Stamping, api.Calm, api.Dropping, 5, math.MaxInt} {
		c := api.Control{Stage: stage, Now: one, Next: other, Number: 9, Waits: []int{7, 8}}
		if got := answerOf(control.Ask(c, line, nil)); stage != api.Idle {
			hold(t, "asked", got, answer{err: api.ErrBusy})
		} else if got.err != api.OK {
			t.Errorf("asked: %v", got)
		}
		if got := answerOf(control.Drop(c, line)); stage != api.Calm {
			hold(t, "dropped", got, answer{err: api.ErrBusy})
		} else if got.err != api.OK {
			t.Errorf("dropped: %v", got)
		}
		for _, number := range []int{math.MinInt, 0, 6, 9, math.MaxInt} {
			hold(t, "told back", answerOf(control.Back(c, line, number)), answer{err: api.ErrNone})
		}
	}
}
