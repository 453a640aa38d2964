package room_test

import (
	"fmt"
	"math"
	"slices"
	"testing"

	"stampways/api"
	"stampways/paths"
	"stampways/room"
)

func link(a, b, cost int) api.Link { return api.Link{A: a, B: b, Cost: cost} }

func net(switches int, links ...api.Link) api.Topo {
	return api.Topo{Switches: switches, Links: links}
}

func flow(from, to int, not ...int) api.Flow { return api.Flow{From: from, To: to, Not: not} }

var (
	two  = net(2, link(0, 1, 1))
	ring = net(4, link(0, 1, 1), link(1, 2, 1), link(2, 3, 1), link(3, 0, 5))
)

func ask(l ...api.Flow) api.Do { return api.Do{Kind: api.DoAsk, Flows: l} }

func order(s int) api.Do { return api.Do{Kind: api.DoOrder, N: s} }

func back(s int) api.Do { return api.Do{Kind: api.DoBack, N: s} }

func begin(flow int) api.Do { return api.Do{Kind: api.DoBegin, N: flow} }

func move(packet int) api.Do { return api.Do{Kind: api.DoMove, N: packet} }

func drop() api.Do { return api.Do{Kind: api.DoDrop} }

// done has the next order of each of these switches come, and its answer.
func done(switches ...int) []api.Do {
	var l []api.Do
	for _, s := range switches {
		l = append(l, order(s), back(s))
	}
	return l
}

func times(n int, d api.Do) []api.Do { return slices.Repeat([]api.Do{d}, n) }

// then lays things that happen one behind the other.
func then(l ...[]api.Do) []api.Do { return slices.Concat(l...) }

func one(d ...api.Do) []api.Do { return d }

// planOf is a plan with which nothing is wrong.
func planOf(n api.Topo, version int, l ...api.Flow) api.Plan {
	plan, fault := paths.Plan(n, version, l)
	if fault.Err != api.OK {
		panic("a test's own plan is none")
	}
	return plan
}

func rule(version, flow, next int) api.Rule {
	return api.Rule{Version: version, Flow: flow, Next: next}
}

// answer is all that Play tells.
type answer struct {
	w     api.World
	came  []api.Errno
	fault api.Fault
}

func play(n api.Topo, l []api.Do) answer {
	w, came, fault := room.Play(n, l)
	return answer{w, came, fault}
}

// told is a value as a text; lists without entries are told alike, be they nil or not.
func told(x any) string { return fmt.Sprintf("%v", x) }

func hold(t *testing.T, what string, got, want any) {
	t.Helper()
	if told(got) != told(want) {
		t.Errorf("%s:\n%v, not\n%v", what, got, want)
	}
}

// last is what came of the last thing that happened.
func (a answer) last() api.Errno { return a.came[len(a.came)-1] }

// fresh is the world of a net in which nothing happened.
func fresh(switches int) api.World {
	return api.World{Switches: make([]api.Switch, switches), Orders: make([][]api.Order, switches), Backs: make([][]int, switches)}
}

// TestWorldAtFirst: H1, before anything happens.
func TestWorldAtFirst(t *testing.T) {
	for switches := 1; switches <= api.MaxSwitches; switches++ {
		for _, l := range [][]api.Do{nil, {}} {
			hold(t, "nothing happens", play(net(switches), l), answer{w: fresh(switches)})
		}
	}
}

// TestPlayFaults: H1, of nets with which something is wrong, and of too many things.
func TestPlayFaults(t *testing.T) {
	many := times(api.MaxDo+1, drop())
	for _, c := range []struct {
		what string
		n    api.Topo
		want api.Fault
	}{
		{"no switches", net(0), api.Fault{Err: api.ErrMany}},
		{"fewer than none", net(math.MinInt), api.Fault{Err: api.ErrMany}},
		{"too many switches", net(9), api.Fault{Err: api.ErrMany}},
		{"far too many", net(math.MaxInt), api.Fault{Err: api.ErrMany}},
		{"too many links", net(2, slices.Repeat([]api.Link{link(0, 1, 1)}, 29)...), api.Fault{Err: api.ErrMany}},
		{"no such switch", net(3, link(0, 1, 1), link(0, 3, 1)), api.Fault{Err: api.ErrNone, At: 1}},
		{"a switch joined to itself", net(3, link(2, 2, 1)), api.Fault{Err: api.ErrFit}},
		{"too cheap", net(3, link(0, 1, 1), link(1, 2, 2), link(2, 0, 0)), api.Fault{Err: api.ErrRange, At: 2}},
		{"joined twice", net(3, link(0, 1, 1), link(1, 0, 2)), api.Fault{Err: api.ErrName, At: 1}},
	} {
		for _, l := range [][]api.Do{nil, {begin(0)}, {ask(flow(0, 1))}, many} {
			hold(t, c.what, play(c.n, l), answer{fault: c.want})
		}
	}
	for _, l := range [][]api.Do{many, make([]api.Do, 201), append([]api.Do{ask()}, times(200, order(0))...), times(5000, begin(0))} {
		hold(t, "too many things", play(ring, l), answer{fault: api.Fault{Err: api.ErrMany}})
	}
}

// TestMostThings: H1, as many as may happen.
func TestMostThings(t *testing.T) {
	got := play(ring, append(times(199, drop()), ask()))
	want := fresh(4)
	want.Control = api.Control{Stage: api.Calm, Next: planOf(ring, 1)}
	want.Plans = []api.Plan{planOf(ring, 1)}
	hold(t, "199 are refused", got, answer{w: want, came: append(slices.Repeat([]api.Errno{api.ErrBusy}, 199), api.OK)})
	if got := play(ring, make([]api.Do, 200)); len(got.came) != 200 || got.fault != (api.Fault{}) {
		t.Errorf("200 things without a kind: %v", got)
	}
}

// midst is a world in which much is on its way: a change is at its stamps, beside an elder plan, and packets go.
func midst() []api.Do {
	return then(one(ask(flow(0, 3), flow(2, 1))), done(0, 1, 2, 0, 2), one(drop(), begin(0), begin(1), move(0)),
		one(ask(flow(2, 0), flow(0, 3, 1))), done(0, 1, 2), one(order(2), begin(0)))
}

// TestNoSuchKind: H1; what else is handed in with it does not matter.
func TestNoSuchKind(t *testing.T) {
	for _, l := range [][]api.Do{nil, midst(), {ask()}} {
		before := play(ring, l)
		for _, kind := range []int{math.MinInt, -1, 0, 7, 8, 256 + 1, math.MaxInt} {
			for n := -1; n < 5; n++ {
				got := play(ring, then(l, one(api.Do{Kind: kind, N: n, Flows: []api.Flow{flow(0, 1)}})))
				hold(t, "no such kind", got, answer{w: before.w, came: append(before.came, api.ErrKind)})
			}
		}
	}
}

// TestWhatKindsHaveNot: fields that a kind has not mean nothing.
func TestWhatKindsHaveNot(t *testing.T) {
	plain := then(midst(), done(0, 2), one(move(0), begin(1), drop()), done(0))
	odd := slices.Clone(plain)
	for i := range odd {
		switch odd[i].Kind {
		case api.DoAsk:
			odd[i].N = 99
		case api.DoDrop:
			odd[i].N, odd[i].Flows = -3, []api.Flow{flow(7, 7)}
		default:
			odd[i].Flows = []api.Flow{flow(7, 7)}
		}
	}
	hold(t, "odd fields", play(ring, odd), play(ring, plain))
}

// refusals are things that are refused in the world of midst, and why.
func refusals() map[string]struct {
	d    api.Do
	want api.Errno
} {
	type refusal = struct {
		d    api.Do
		want api.Errno
	}
	return map[string]refusal{
		"busy":                 {ask(flow(0, 1)), api.ErrBusy},
		"busy, and wrong":      {ask(flow(0, 0)), api.ErrBusy},
		"not calm":             {drop(), api.ErrBusy},
		"no order there":       {order(1), api.ErrNone},
		"orders of no switch":  {order(4), api.ErrNone},
		"orders below 0":       {order(-1), api.ErrNone},
		"orders far up":        {order(math.MaxInt), api.ErrNone},
		"orders far below 0":   {order(math.MinInt), api.ErrNone},
		"no answer there":      {back(0), api.ErrNone},
		"answers of no switch": {back(4), api.ErrNone},
		"answers below 0":      {back(-1), api.ErrNone},
		"answers far up":       {back(math.MaxInt), api.ErrNone},
		"no such flow":         {begin(2), api.ErrNone},
		"a flow below 0":       {begin(-1), api.ErrNone},
		"a flow far up":        {begin(math.MaxInt), api.ErrNone},
		"a flow far below 0":   {begin(math.MinInt), api.ErrNone},
		"no such packet":       {move(3), api.ErrNone},
		"a packet below 0":     {move(-1), api.ErrNone},
		"a packet far up":      {move(math.MaxInt), api.ErrNone},
		"no kind":              {api.Do{}, api.ErrKind},
	}
}

// TestRefusedChangesNothing: H1; each is told, and the world is as it was.
func TestRefusedChangesNothing(t *testing.T) {
	before := play(ring, midst())
	all := midst()
	for what, c := range refusals() {
		got := play(ring, append(midst(), c.d))
		hold(t, what, got, answer{w: before.w, came: append(slices.Clone(before.came), c.want)})
		all = append(all, c.d)
	}
	hold(t, "all of them", play(ring, all).w, before.w)
}
