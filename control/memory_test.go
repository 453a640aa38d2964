package control_test

import (
	"math"
	"slices"
	"testing"

	"stampways/api"
	"stampways/control"
	"stampways/paths"
)

// call is one of the three, with all that it is given but the control and the net.
type call struct {
	what string
	c    api.Control
	do   func(c api.Control, n api.Topo) answer
}

// ask is a call of Ask for flows that are made anew each time.
func ask(l func() []api.Flow) func(c api.Control, n api.Topo) answer {
	return func(c api.Control, n api.Topo) answer { return answerOf(control.Ask(c, n, l())) }
}

func back(number int) func(c api.Control, n api.Topo) answer {
	return func(c api.Control, n api.Topo) answer { return answerOf(control.Back(c, n, number)) }
}

func dropAll(c api.Control, n api.Topo) answer { return answerOf(control.Drop(c, n)) }

func listedFlows() []api.Flow {
	return []api.Flow{{From: 0, To: 2, Via: []int{3}, Not: []int{1}}, {From: 2, To: 0, Via: []int{1}, Not: []int{3}}, {From: 0, To: 1}}
}

// calls go through all stages, with lists in every place that has some.
func calls() []call {
	one, other := planOf(ring, 4, listedFlows()...), planOf(ring, 5, slices.Concat(listedFlows()[1:], listedFlows())...)
	is := func(stage int, waits ...int) api.Control {
		return api.Control{Stage: stage, Now: one, Next: other, Number: 9, Waits: waits}
	}
	return []call{
		{"asked", is(api.Idle), ask(listedFlows)},
		{"asked, and waiting", is(api.Idle, 3, 8, 9), ask(listedFlows)},
		{"asked for nothing", is(api.Idle), ask(func() []api.Flow { return nil })},
		{"one back", is(api.Adding, 7, 8, 9), back(8)},
		{"the last rules back", is(api.Adding, 9), back(9)},
		{"the last stamp back", is(api.Stamping, 9), back(9)},
		{"the last drop back", is(api.Dropping, 9), back(9)},
		{"back, and idle", is(api.Idle, 9), back(9)},
		{"back, and calm", is(api.Calm, 8, 9), back(9)},
		{"dropped", is(api.Calm), dropAll},
		{"dropped, and waiting", is(api.Calm, 7, 8), dropAll},
	}
}

// roomy is a copy of l with spare room behind it that is filled with something wrong.
func roomy[T any](l []T, wrong T) []T {
	return append(slices.Clone(l), wrong, wrong, wrong)[:len(l)]
}

func roomyPlan(p api.Plan) api.Plan {
	p.Flows, p.Paths = roomy(p.Flows, flow(0, 99, 99)), roomy(p.Paths, api.Path{0, 1, 2, 3})
	for i := range p.Flows {
		p.Flows[i].Via, p.Flows[i].Not = roomy(p.Flows[i].Via, 99), roomy(p.Flows[i].Not, 99)
	}
	for i := range p.Paths {
		p.Paths[i] = roomy(p.Paths[i], 0)
	}
	return p
}

func roomyControl(c api.Control) api.Control {
	c.Now, c.Next, c.Waits = roomyPlan(c.Now), roomyPlan(c.Next), roomy(c.Waits, 8)
	return c
}

// whole is a copy of a plan with all spare room, so that what stands there can be held against what stood.
func whole(p api.Plan) api.Plan {
	p.Flows, p.Paths = slices.Clone(p.Flows[:cap(p.Flows)]), slices.Clone(p.Paths[:cap(p.Paths)])
	for i, f := range p.Flows {
		p.Flows[i].Via, p.Flows[i].Not = slices.Clone(f.Via[:cap(f.Via)]), slices.Clone(f.Not[:cap(f.Not)])
	}
	for i, path := range p.Paths {
		p.Paths[i] = slices.Clone(path[:cap(path)])
	}
	return p
}

func wholeControl(c api.Control) api.Control {
	c.Now, c.Next, c.Waits = whole(c.Now), whole(c.Next), slices.Clone(c.Waits[:cap(c.Waits)])
	return c
}

// numbersOf are all lists of numbers of a plan.
func numbersOf(p api.Plan) [][]int {
	var out [][]int
	for _, f := range p.Flows {
		out = append(out, f.Via, f.Not)
	}
	for _, path := range p.Paths {
		out = append(out, path)
	}
	return out
}

// spoilersOf fill a list of an answer each, with its spare room.
func spoilersOf(a answer) []func() {
	var out []func()
	for _, l := range slices.Concat(numbersOf(a.c.Now), numbersOf(a.c.Next), [][]int{a.c.Waits}) {
		out = append(out, func() { fill(l, -77) })
	}
	for _, x := range a.told {
		out = append(out, func() { fill(x.Order.Rules, rule(-77, -77, -77)) }, func() { fill(x.Order.Flows, -77) })
	}
	for _, p := range []api.Plan{a.c.Now, a.c.Next} {
		out = append(out, func() { fill(p.Flows, flow(-77, -77)) }, func() { fill(p.Paths, nil) })
	}
	return append(out, func() { fill(a.told, api.To{}) })
}

func fill[T any](l []T, x T) {
	l = l[:cap(l)]
	for i := range l {
		l[i] = x
	}
}

// TestOnlyReads: what is handed in, and the spare room behind it, is neither changed nor looked at, nor kept.
func TestOnlyReads(t *testing.T) {
	for _, k := range calls() {
		want := k.do(k.c, ring)
		c, n := roomyControl(k.c), net(4, roomy(ring.Links, link(9, 9, 9))...)
		kept, keptLinks := wholeControl(c), slices.Clone(n.Links[:cap(n.Links)])
		got := k.do(c, n)
		hold(t, k.what, got, want)
		if !sameControl(wholeControl(c), kept) || !slices.Equal(n.Links[:cap(n.Links)], keptLinks) {
			t.Errorf("%s: what was handed in is changed", k.what)
		}
		for _, spoil := range spoilersOf(answer{c: c}) {
			spoil()
		}
		clear(n.Links)
		hold(t, k.what+", and what was handed in is another one then", got, want)
	}
}

// TestAskKeepsNoFlows: the flows that are asked for are read, and stay with who asked.
func TestAskKeepsNoFlows(t *testing.T) {
	l := roomyPlan(api.Plan{Flows: listedFlows()})
	kept := whole(l)
	want := answerOf(control.Ask(api.Control{}, ring, listedFlows()))
	got := answerOf(control.Ask(api.Control{}, ring, l.Flows))
	if !samePlan(whole(l), kept) {
		t.Errorf("what was handed in is changed: %v", l)
	}
	for _, spoil := range spoilersOf(answer{c: api.Control{Next: l}}) {
		spoil()
	}
	hold(t, "asked", got, want)
}

// TestAnswersAreNewMemory fills an answer's lists, one after the other: neither what was handed in, nor another answer,
// nor another list of that answer is seen to change.
func TestAnswersAreNewMemory(t *testing.T) {
	for _, k := range calls() {
		kept, want, other := wholeControl(k.c), k.do(k.c, ring), k.do(k.c, ring)
		many := len(spoilersOf(want))
		for i := range many {
			spoilt, byHand := k.do(k.c, ring), deepCopy(want)
			spoilersOf(spoilt)[i]()
			spoilersOf(byHand)[i]()
			hold(t, k.what+", one list filled", spoilt, byHand)
		}
		if !sameControl(wholeControl(k.c), kept) {
			t.Errorf("%s: an answer shares memory with what was handed in", k.what)
		}
		hold(t, k.what+", another answer", other, want)
	}
}

// deepCopy shares no memory with a.
func deepCopy(a answer) answer {
	a.c.Now, a.c.Next, a.c.Waits = paths.Copy(a.c.Now), paths.Copy(a.c.Next), slices.Clone(a.c.Waits)
	a.told = slices.Clone(a.told)
	for i := range a.told {
		o := &a.told[i].Order
		o.Rules, o.Flows = slices.Clone(o.Rules), slices.Clone(o.Flows)
	}
	return a
}

func TestNilAndEmptyAreTheSame(t *testing.T) {
	empty := api.Plan{Version: 1, Flows: []api.Flow{}, Paths: []api.Path{}}
	for _, now := range []api.Plan{{Version: 1}, empty} {
		for _, waits := range [][]int{nil, {}} {
			for _, l := range [][]api.Flow{nil, {}} {
				got := answerOf(control.Ask(api.Control{Now: now, Waits: waits}, ring, l))
				hold(t, "asked", got, answer{c: api.Control{Stage: api.Calm, Now: planOf(ring, 1), Next: planOf(ring, 2)}})
			}
			calm := api.Control{Stage: api.Calm, Now: now, Next: now, Waits: waits}
			hold(t, "dropped", answerOf(control.Drop(calm, ring)), answer{c: api.Control{Now: planOf(ring, 1)}})
			hold(t, "back", answerOf(control.Back(calm, ring, 0)), answer{err: api.ErrNone})
		}
		dropping := api.Control{Stage: api.Dropping, Now: now, Next: now, Waits: []int{1}}
		hold(t, "back", answerOf(control.Back(dropping, ring, 1)), answer{c: api.Control{Now: planOf(ring, 1)}})
	}
}

// oddPlans are of no net, or of another one.
func oddPlans() []api.Plan {
	return []api.Plan{
		{},
		{Version: -7, Paths: []api.Path{nil, {}, {-1, 9, math.MaxInt, math.MinInt, 0}}},
		{Version: 3, Flows: []api.Flow{flow(-1, 9), flow(math.MaxInt, math.MinInt, -1), flow(0, 0)}},
		{Version: 3, Flows: make([]api.Flow, 300), Paths: slices.Repeat([]api.Path{{0, 0, 0, 1, 0, 1}}, 40)},
		{Flows: listedFlows()},
		{Version: math.MaxInt, Paths: []api.Path{{0, 1}}},
		planOf(ring, 4, listedFlows()...),
	}
}

// TestWhateverIsGiven: nothing panics, every call ends, and beside an error there is nothing.
func TestWhateverIsGiven(t *testing.T) {
	nets := []api.Topo{{}, two, line, ring, net(-1), net(8), net(math.MaxInt), net(2, link(0, 1, 0))}
	numbers := []int{math.MinInt, -1, 0, 1, 99999, 100000, math.MaxInt}
	for _, now := range oddPlans() {
		for _, next := range oddPlans() {
			for stage := -1; stage < 6; stage++ {
				for i, number := range numbers {
					c := api.Control{Stage: stage, Now: now, Next: next, Number: number, Waits: numbers[:i]}
					for _, n := range nets {
						for _, got := range []answer{answerOf(control.Ask(c, n, next.Flows)), answerOf(control.Drop(c, n)), answerOf(control.Back(c, n, -1))} {
							if got.err != api.OK && !same(got, answer{err: got.err}) {
								t.Fatalf("%v in %v: %v", c, n, got)
							}
						}
					}
				}
			}
		}
	}
}
