package control_test

import (
	"math"
	"slices"
	"testing"

	"stampways/api"
	"stampways/control"
)

// TestAsk: G1, of calls that are not refused.
func TestAsk(t *testing.T) {
	const adding, stamping, calm = api.Adding, api.Stamping, api.Calm
	one := planOf(line, 1, flow(0, 2))
	next := func(version int, l ...api.Flow) api.Plan { return planOf(line, version, l...) }
	for _, c := range []struct {
		what string
		c    api.Control
		l    []api.Flow
		want answer
	}{
		{"a flow", api.Control{}, []api.Flow{flow(0, 2)},
			answer{c: api.Control{Stage: adding, Next: one, Number: 2, Waits: []int{1, 2}}, told: []api.To{
				add(0, 1, 1, rule(1, 0, 1)), add(1, 2, 1, rule(1, 0, 2))}}},
		{"rising switches, though the path falls", api.Control{}, []api.Flow{flow(2, 0)},
			answer{c: api.Control{Stage: adding, Next: next(1, flow(2, 0)), Number: 2, Waits: []int{1, 2}}, told: []api.To{
				add(1, 1, 1, rule(1, 0, 0)), add(2, 2, 1, rule(1, 0, 1))}}},
		{"flows that meet", api.Control{}, []api.Flow{flow(1, 0), flow(2, 0), flow(1, 2)},
			answer{c: api.Control{Stage: adding, Next: next(1, flow(1, 0), flow(2, 0), flow(1, 2)), Number: 2, Waits: []int{1, 2}}, told: []api.To{
				add(1, 1, 1, rule(1, 0, 0), rule(1, 1, 0), rule(1, 2, 2)), add(2, 2, 1, rule(1, 1, 1))}}},
		{"beside a plan", api.Control{Now: one, Number: 40}, []api.Flow{flow(1, 0)},
			answer{c: api.Control{Stage: adding, Now: one, Next: next(2, flow(1, 0)), Number: 41, Waits: []int{41}}, told: []api.To{
				add(1, 41, 2, rule(2, 0, 0))}}},
		{"the same flows again", api.Control{Now: one, Number: 3}, one.Flows,
			answer{c: api.Control{Stage: adding, Now: one, Next: next(2, flow(0, 2)), Number: 5, Waits: []int{4, 5}}, told: []api.To{
				add(0, 4, 2, rule(2, 0, 1)), add(1, 5, 2, rule(2, 0, 2))}}},
		{"behind what is waited for", api.Control{Number: 6, Waits: []int{9, 2, 9}}, []api.Flow{flow(0, 1)},
			answer{c: api.Control{Stage: adding, Next: next(1, flow(0, 1)), Number: 7, Waits: []int{9, 2, 9, 7}}, told: []api.To{
				add(0, 7, 1, rule(1, 0, 1))}}},
		{"in place of a plan that was next", api.Control{Next: next(7, flow(2, 1), flow(1, 0))}, []api.Flow{flow(0, 1)},
			answer{c: api.Control{Stage: adding, Next: next(1, flow(0, 1)), Number: 1, Waits: []int{1}}, told: []api.To{
				add(0, 1, 1, rule(1, 0, 1))}}},
		{"the last version", api.Control{Now: next(999)}, []api.Flow{flow(0, 1)},
			answer{c: api.Control{Stage: adding, Now: next(999), Next: next(1000, flow(0, 1)), Number: 1, Waits: []int{1}}, told: []api.To{
				add(0, 1, 1000, rule(1000, 0, 1))}}},

		{"no flows, and none were", api.Control{}, nil, answer{c: api.Control{Stage: calm, Next: next(1)}}},
		{"no flows any more", api.Control{Now: one, Number: 3}, nil,
			answer{c: api.Control{Stage: stamping, Now: one, Next: next(2), Number: 4, Waits: []int{4}}, told: []api.To{stamp(0, 4, 2)}}},
		{"no flows, but something is waited for", api.Control{Now: one, Number: 3, Waits: []int{3}}, nil,
			answer{c: api.Control{Stage: adding, Now: one, Next: next(2), Number: 3, Waits: []int{3}}}},
	} {
		hold(t, c.what, answerOf(control.Ask(c.c, line, c.l)), c.want)
	}
}

func TestAskErrors(t *testing.T) {
	lost := flow(0, 2, 1)
	for _, c := range []struct {
		what string
		c    api.Control
		n    api.Topo
		l    []api.Flow
		want api.Errno
	}{
		{"no such switch", api.Control{}, line, []api.Flow{flow(0, 1), flow(0, 3)}, api.ErrNone},
		{"to itself", api.Control{}, line, []api.Flow{flow(1, 1)}, api.ErrFit},
		{"not over one twice", api.Control{}, line, []api.Flow{flow(0, 1, 2, 2)}, api.ErrName},
		{"too many flows", api.Control{}, line, slices.Repeat([]api.Flow{flow(0, 1)}, 13), api.ErrMany},
		{"no path", api.Control{}, line, []api.Flow{flow(0, 1), lost}, api.ErrPath},
		{"no version is left", api.Control{Now: api.Plan{Version: 1000}}, line, nil, api.ErrRange},
		{"a version far up", api.Control{Now: api.Plan{Version: math.MaxInt}}, line, nil, api.ErrRange},
		{"a version below 0", api.Control{Now: api.Plan{Version: -1}}, line, nil, api.ErrRange},
		{"a version ahead of flows", api.Control{Now: api.Plan{Version: 1000}}, line, []api.Flow{flow(1, 1)}, api.ErrRange},
		{"flows ahead of paths", api.Control{}, line, []api.Flow{lost, flow(1, 1)}, api.ErrFit},
		{"busy ahead of a wrong net", api.Control{Stage: api.Calm}, net(0), nil, api.ErrBusy},
		{"busy ahead of flows", api.Control{Stage: api.Adding}, line, []api.Flow{flow(1, 1)}, api.ErrBusy},
		{"busy ahead of a version", api.Control{Stage: api.Dropping, Now: api.Plan{Version: 1000}}, line, nil, api.ErrBusy},
	} {
		hold(t, c.what, answerOf(control.Ask(c.c, c.n, c.l)), answer{err: c.want})
	}
	for err, n := range wrongNets() {
		for _, now := range []int{0, 1000} {
			c := api.Control{Now: api.Plan{Version: now}, Number: 4, Waits: []int{4}}
			hold(t, "a wrong net", answerOf(control.Ask(c, n, []api.Flow{flow(2, 2)})), answer{err: err})
		}
	}
}

// TestAskOfRoom: at each switch there is room for both plans' rules, or all is refused.
func TestAskOfRoom(t *testing.T) {
	flowsFrom := func(from, to, many int) []api.Flow { return slices.Repeat([]api.Flow{flow(from, to)}, many) }
	for now := range 13 {
		for next := range 13 {
			for _, ends := range [][2]int{{0, 1}, {1, 0}} {
				c := api.Control{Now: planOf(two, 5, flowsFrom(ends[0], ends[1], now)...)}
				got := answerOf(control.Ask(c, two, flowsFrom(ends[0], ends[1], next)))
				if now+next > 16 {
					hold(t, "no room", got, answer{err: api.ErrFull})
				} else if got.err != api.OK || len(got.c.Next.Flows) != next {
					t.Errorf("%d beside %d: %v", next, now, got)
				}
				away := answerOf(control.Ask(c, two, flowsFrom(ends[1], ends[0], next)))
				if away.err != api.OK || len(away.c.Next.Flows) != next {
					t.Errorf("%d elsewhere than %d: %v", next, now, away)
				}
			}
		}
	}
	middle := api.Control{Now: planOf(line, 1, flowsFrom(0, 2, 9)...)}
	hold(t, "no room on the way only", answerOf(control.Ask(middle, line, flowsFrom(2, 0, 8))), answer{err: api.ErrFull})
	hold(t, "no room where the way begins only", answerOf(control.Ask(middle, line, flowsFrom(0, 1, 8))), answer{err: api.ErrFull})
	if got := answerOf(control.Ask(middle, line, flowsFrom(2, 1, 12))); got.err != api.OK {
		t.Errorf("room where nothing goes on: %v", got)
	}
	hold(t, "paths ahead of room", answerOf(control.Ask(middle, line, append(flowsFrom(2, 0, 8), flow(0, 2, 1)))), answer{err: api.ErrPath})
}
