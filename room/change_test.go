package room_test

import (
	"slices"
	"testing"

	"stampways/api"
)

func added(number, version int, l ...api.Rule) api.Order {
	return api.Order{Kind: api.OrderAdd, Number: number, Version: version, Rules: l}
}

func stamped(number, version int, l ...int) api.Order {
	return api.Order{Kind: api.OrderStamp, Number: number, Version: version, Flows: l}
}

func dropped(number, version int) api.Order {
	return api.Order{Kind: api.OrderDrop, Number: number, Version: version}
}

// on is a list for each of a ring's switches.
func on[T any](l ...[]T) [][]T { return append(l, make([][]T, 4-len(l))...) }

// TestOneChange: H2, thing by thing, all that is on its way.
func TestOneChange(t *testing.T) {
	type orders = []api.Order
	type numbers = []int
	first, other := planOf(ring, 1, flow(0, 2)), planOf(ring, 2, flow(0, 3, 1), flow(1, 0))
	is := func(stage int, now, next api.Plan, number int, waits ...int) api.Control {
		return api.Control{Stage: stage, Now: now, Next: next, Number: number, Waits: waits}
	}
	none := api.Plan{}
	var l []api.Do
	for i, step := range []struct {
		d      api.Do
		c      api.Control
		orders [][]api.Order
		backs  [][]int
	}{
		{ask(flow(0, 2)), is(api.Adding, none, first, 2, 1, 2), on(orders{added(1, 1, rule(1, 0, 1))}, orders{added(2, 1, rule(1, 0, 2))}), on[int]()},
		{order(1), is(api.Adding, none, first, 2, 1, 2), on(orders{added(1, 1, rule(1, 0, 1))}), on(nil, numbers{2})},
		{order(0), is(api.Adding, none, first, 2, 1, 2), on[api.Order](), on(numbers{1}, numbers{2})},
		{back(1), is(api.Adding, none, first, 2, 1), on[api.Order](), on(numbers{1})},
		{back(0), is(api.Stamping, none, first, 3, 3), on(orders{stamped(3, 1, 0)}), on[int]()},
		{order(0), is(api.Stamping, none, first, 3, 3), on[api.Order](), on(numbers{3})},
		{back(0), is(api.Calm, none, first, 3), on[api.Order](), on[int]()},
		{drop(), is(api.Idle, first, none, 3), on[api.Order](), on[int]()},
		{ask(flow(0, 3, 1), flow(1, 0)), is(api.Adding, first, other, 5, 4, 5), on(orders{added(4, 2, rule(2, 0, 3))}, orders{added(5, 2, rule(2, 1, 0))}), on[int]()},
		{order(0), is(api.Adding, first, other, 5, 4, 5), on(nil, orders{added(5, 2, rule(2, 1, 0))}), on(numbers{4})},
		{back(0), is(api.Adding, first, other, 5, 5), on(nil, orders{added(5, 2, rule(2, 1, 0))}), on[int]()},
		{order(1), is(api.Adding, first, other, 5, 5), on[api.Order](), on(nil, numbers{5})},
		{back(1), is(api.Stamping, first, other, 7, 6, 7), on(orders{stamped(6, 2, 0)}, orders{stamped(7, 2, 1)}), on[int]()},
		{order(1), is(api.Stamping, first, other, 7, 6, 7), on(orders{stamped(6, 2, 0)}), on(nil, numbers{7})},
		{order(0), is(api.Stamping, first, other, 7, 6, 7), on[api.Order](), on(numbers{6}, numbers{7})},
		{back(0), is(api.Stamping, first, other, 7, 7), on[api.Order](), on(nil, numbers{7})},
		{back(1), is(api.Calm, first, other, 7), on[api.Order](), on[int]()},
		{drop(), is(api.Dropping, first, other, 9, 8, 9), on(orders{dropped(8, 1)}, orders{dropped(9, 1)}), on[int]()},
		{order(0), is(api.Dropping, first, other, 9, 8, 9), on(nil, orders{dropped(9, 1)}), on(numbers{8})},
		{order(1), is(api.Dropping, first, other, 9, 8, 9), on[api.Order](), on(numbers{8}, numbers{9})},
		{back(1), is(api.Dropping, first, other, 9, 8), on[api.Order](), on(numbers{8})},
		{back(0), is(api.Idle, other, none, 9), on[api.Order](), on[int]()},
		{ask(), is(api.Stamping, other, planOf(ring, 3), 11, 10, 11), on(orders{stamped(10, 3)}, orders{stamped(11, 3)}), on[int]()},
	} {
		l = append(l, step.d)
		got := play(ring, l)
		if len(got.came) != i+1 || got.last() != api.OK || got.fault != (api.Fault{}) {
			t.Fatalf("step %d: %v %v", i, got.came, got.fault)
		}
		hold(t, "control", got.w.Control, step.c)
		hold(t, "orders", got.w.Orders, step.orders)
		hold(t, "backs", got.w.Backs, step.backs)
		if t.Failed() {
			t.Fatalf("at step %d", i)
		}
	}
	got := play(ring, l)
	hold(t, "plans", got.w.Plans, []api.Plan{first, other, planOf(ring, 3)})
	hold(t, "switches", got.w.Switches, []api.Switch{
		{Rules: []api.Rule{rule(2, 0, 3)}, Stamps: []api.Stamp{{Flow: 0, Version: 2}}},
		{Rules: []api.Rule{rule(2, 1, 0)}, Stamps: []api.Stamp{{Flow: 1, Version: 2}}}, {}, {}})
}

// TestSwitchesAsOrdersCome: H2; a switch changes when its order comes, not when it is told, nor when its answer is back.
func TestSwitchesAsOrdersCome(t *testing.T) {
	s := func(l []api.Rule, stamps ...api.Stamp) api.Switch { return api.Switch{Rules: l, Stamps: stamps} }
	old, both, next := []api.Rule{rule(1, 0, 1)}, []api.Rule{rule(1, 0, 1), rule(2, 0, 1)}, []api.Rule{rule(2, 0, 1)}
	var l []api.Do
	for i, step := range []struct {
		d    api.Do
		want api.Switch
	}{
		{ask(flow(0, 1)), s(nil)}, {order(0), s(old)}, {back(0), s(old)},
		{order(0), s(old, api.Stamp{Version: 1})}, {back(0), s(old, api.Stamp{Version: 1})}, {drop(), s(old, api.Stamp{Version: 1})},
		{ask(flow(0, 1)), s(old, api.Stamp{Version: 1})}, {order(0), s(both, api.Stamp{Version: 1})}, {back(0), s(both, api.Stamp{Version: 1})},
		{order(0), s(both, api.Stamp{Version: 2})}, {back(0), s(both, api.Stamp{Version: 2})}, {drop(), s(both, api.Stamp{Version: 2})},
		{order(0), s(next, api.Stamp{Version: 2})}, {back(0), s(next, api.Stamp{Version: 2})},
	} {
		l = append(l, step.d)
		got := play(two, l)
		if got.last() != api.OK {
			t.Fatalf("step %d: %v", i, got.last())
		}
		hold(t, "switches", got.w.Switches, []api.Switch{step.want, {}})
	}
}

// TestAnswersInAnyOrder: H2; switches answer as they please, and the change waits for the last one.
// A switch gets a second order only when its first one is back: of one switch there are never two on their way.
func TestAnswersInAnyOrder(t *testing.T) {
	got := play(ring, then(one(ask(flow(0, 3))), one(order(2), order(0), order(1), back(1), back(2), order(0), order(2))))
	hold(t, "came", got.came, []api.Errno{0, 0, 0, 0, 0, 0, api.ErrNone, api.ErrNone})
	hold(t, "backs", got.w.Backs, on([]int{1}))
	hold(t, "waits", got.w.Control.Waits, []int{1})
	got = play(ring, then(one(ask(flow(0, 3))), done(2, 1, 0)))
	hold(t, "stamps then", got.w.Orders, on([]api.Order{stamped(4, 1, 0)}))
}

// TestAskErrors: H2; Ask's error is told, and there is no plan of it.
func TestAskErrors(t *testing.T) {
	full := then(one(ask(slices.Repeat([]api.Flow{flow(0, 1)}, 9)...)), done(0, 0), one(drop()))
	for _, c := range []struct {
		what string
		l    []api.Do
		d    api.Do
		want api.Errno
	}{
		{"no such switch", nil, ask(flow(0, 1), flow(0, 4)), api.ErrNone},
		{"to itself", nil, ask(flow(1, 1)), api.ErrFit},
		{"not over one twice", nil, ask(flow(0, 1, 2, 2)), api.ErrName},
		{"no path", nil, ask(flow(0, 2, 1, 3)), api.ErrPath},
		{"too many flows", nil, ask(slices.Repeat([]api.Flow{flow(0, 1)}, 13)...), api.ErrMany},
		{"no room", full, ask(slices.Repeat([]api.Flow{flow(0, 1)}, 8)...), api.ErrFull},
		{"rules are told", one(ask(flow(0, 1))), ask(flow(0, 1)), api.ErrBusy},
		{"stamps are told", then(one(ask(flow(0, 1))), done(0)), ask(flow(0, 1)), api.ErrBusy},
		{"calm", one(ask()), ask(), api.ErrBusy},
		{"rules are dropped", then(full, one(ask()), done(0), one(drop())), ask(), api.ErrBusy},
	} {
		before := play(ring, c.l)
		hold(t, c.what, play(ring, append(slices.Clone(c.l), c.d)), answer{w: before.w, came: append(before.came, c.want)})
	}
	if got := play(ring, then(full, one(ask(slices.Repeat([]api.Flow{flow(0, 1)}, 7)...)))); got.last() != api.OK || len(got.w.Plans) != 2 {
		t.Errorf("there is room: %v", got)
	}
}

// TestDropErrors: H2; only what is calm is dropped.
func TestDropErrors(t *testing.T) {
	change := then(one(ask(flow(0, 1))), done(0, 0), one(drop()), one(ask(flow(1, 0))), done(1, 0, 1), one(drop()), done(0))
	stages := []int{0: api.Idle, 1: api.Adding, 2: api.Adding, 3: api.Stamping, 4: api.Stamping, 5: api.Calm, 6: api.Idle, 7: api.Adding,
		8: api.Adding, 9: api.Stamping, 10: api.Stamping, 11: api.Stamping, 12: api.Stamping, 13: api.Calm, 14: api.Dropping, 15: api.Dropping, 16: api.Idle}
	for i, stage := range stages {
		before := play(ring, change[:i])
		hold(t, "stage", before.w.Control.Stage, stage)
		got := play(ring, append(slices.Clone(change[:i]), drop()))
		if stage != api.Calm {
			hold(t, "dropped", got, answer{w: before.w, came: append(before.came, api.ErrBusy)})
		} else if got.last() != api.OK {
			t.Errorf("calm, and drop is refused: %v", got.last())
		}
	}
}
