package control_test

import (
	"math"
	"slices"
	"testing"

	"stampways/agent"
	"stampways/api"
	"stampways/control"
	"stampways/paths"
	"stampways/rules"
	"stampways/topo"
	"stampways/wire"
)

// plainTell waits for an order, and tells it.
func plainTell(a answer, s int, o api.Order) answer {
	a.c.Number++
	o.Number = a.c.Number
	a.c.Waits = append(slices.Clone(a.c.Waits), o.Number)
	a.told = append(a.told, api.To{Switch: s, Order: o})
	return a
}

// plainGoOn says G3 over again.
func plainGoOn(a answer, switches int) answer {
	if len(a.c.Waits) > 0 {
		return a
	}
	switch a.c.Stage {
	case api.Adding:
		a.c.Stage = api.Stamping
		for s := range switches {
			var numbers []int
			begins := false
			for i, f := range a.c.Next.Flows {
				if f.From == s {
					numbers, begins = append(numbers, i), true
				}
			}
			for _, f := range a.c.Now.Flows {
				begins = begins || f.From == s
			}
			if begins {
				a = plainTell(a, s, api.Order{Kind: 2, Version: a.c.Next.Version, Flows: numbers})
			}
		}
		return plainGoOn(a, switches)
	case api.Stamping:
		a.c.Stage = api.Calm
	case api.Dropping:
		a.c = api.Control{Now: a.c.Next, Number: a.c.Number}
	}
	return a
}

// plainAsk says G1 over again.
func plainAsk(c api.Control, n api.Topo, l []api.Flow) answer {
	if c.Stage != 0 {
		return answer{err: api.ErrBusy}
	}
	plan, fault := paths.Plan(n, c.Now.Version+1, l)
	if fault.Err != api.OK {
		return answer{err: fault.Err}
	}
	c.Next, c.Stage = plan, 1
	a := answer{c: c}
	now, next := rules.Of(c.Now, n.Switches), rules.Of(plan, n.Switches)
	for s := range n.Switches {
		if len(slices.Concat(now[s], next[s])) > 16 {
			return answer{err: api.ErrFull}
		}
		if len(next[s]) > 0 {
			a = plainTell(a, s, api.Order{Kind: 1, Version: plan.Version, Rules: next[s]})
		}
	}
	return plainGoOn(a, n.Switches)
}

// plainBack says G2's first sentence over again.
func plainBack(c api.Control, n api.Topo, number int) answer {
	if err := topo.Wrong(n).Err; err != api.OK {
		return answer{err: err}
	}
	for i, x := range c.Waits {
		if x == number {
			c.Waits = slices.Concat(c.Waits[:i], c.Waits[i+1:])
			return plainGoOn(answer{c: c}, n.Switches)
		}
	}
	return answer{err: api.ErrNone}
}

// plainDrop says G2's second sentence over again.
func plainDrop(c api.Control, n api.Topo) answer {
	if err := topo.Wrong(n).Err; err != api.OK {
		return answer{err: err}
	}
	if c.Stage != 3 {
		return answer{err: api.ErrBusy}
	}
	c.Stage = 4
	a := answer{c: c}
	for s, l := range rules.Of(c.Now, n.Switches) {
		if len(l) > 0 {
			a = plainTell(a, s, api.Order{Kind: 3, Version: c.Now.Version})
		}
	}
	return plainGoOn(a, n.Switches)
}

// drawn are numbers below n, one behind the other, always the same ones.
func drawn(seed uint64) func(n int) int {
	return func(n int) int {
		seed = seed*6364136223846793005 + 1442695040888963407
		return int(seed>>33) % n
	}
}

func drawnOdd(draw func(n int) int) int {
	return []int{math.MinInt, -1, 0, 1, 2, 3, 4, 5, 7, 8, 999, 1000, 100000, math.MaxInt}[draw(14)]
}

// drawnNet is a ring with some links across, and now and then a wrong one.
func drawnNet(draw func(n int) int) api.Topo {
	n := api.Topo{Switches: 3 + draw(6)}
	for a := range n.Switches {
		for b := range a {
			if a-b == 1 || a-b == n.Switches-1 || draw(4) == 0 {
				n.Links = append(n.Links, link(a, b, 1+draw(4)))
			}
		}
	}
	if draw(30) == 0 {
		n.Links = append(n.Links, link(drawnOdd(draw), drawnOdd(draw), drawnOdd(draw)))
	}
	return n
}

// drawnFlows are mostly right, begin at one switch or at many, and now and then have no path.
func drawnFlows(draw func(n int) int, switches int) []api.Flow {
	var l []api.Flow
	begin := draw(2 * switches)
	for range draw(13) {
		from := draw(switches)
		if begin < switches {
			from = begin
		}
		f := flow(from, (from+1+draw(switches-1))%switches)
		if x := draw(switches); x != f.From && x != f.To && draw(3) == 0 {
			f.Not = []int{x}
		} else if x != f.From && x != f.To && draw(3) == 0 {
			f.Via = []int{x}
		}
		l = append(l, f)
	}
	if draw(20) == 0 {
		l = append(l, flow(drawnOdd(draw), drawnOdd(draw)))
	}
	if switches > 3 && draw(20) == 0 {
		l = append(l, flow(0, 2, 1, switches-1))
	}
	return l
}

// drawnControl has plans of the net, and is mostly one that a change would come by.
func drawnControl(draw func(n int) int, n api.Topo) api.Control {
	c := api.Control{Stage: draw(5), Number: draw(90000)}
	version := draw(5)
	if draw(10) == 0 {
		version = 999 + draw(2)
	}
	if now, fault := paths.Plan(n, version, drawnFlows(draw, n.Switches)); fault.Err == api.OK {
		c.Now = now
	}
	if next, fault := paths.Plan(n, c.Now.Version+1, drawnFlows(draw, n.Switches)); fault.Err == api.OK && c.Stage != api.Idle {
		c.Next = next
	}
	for range draw(4) {
		c.Waits = append(c.Waits, c.Number-draw(3))
	}
	switch draw(20) {
	case 0:
		c.Stage = drawnOdd(draw)
	case 1:
		c.Number = drawnOdd(draw)
	case 2:
		c.Waits = append(c.Waits, drawnOdd(draw))
	}
	return c
}

// TestDrawnOnes: what is answered is what G1 to G3 say.
func TestDrawnOnes(t *testing.T) {
	draw := drawn(21)
	var asked, back, dropped [api.ErrBusy + 1]int
	for range 30000 {
		n := drawnNet(draw)
		c, l, number := drawnControl(draw, n), drawnFlows(draw, n.Switches), drawnOdd(draw)
		if len(c.Waits) > 0 && draw(5) > 0 {
			number = c.Waits[draw(len(c.Waits))]
		}
		a, b, d := answerOf(control.Ask(c, n, l)), answerOf(control.Back(c, n, number)), answerOf(control.Drop(c, n))
		if want := plainAsk(c, n, l); !same(a, want) {
			t.Fatalf("%v asked for %v in %v: %v, not %v", c, l, n, a, want)
		}
		if want := plainBack(c, n, number); !same(b, want) {
			t.Fatalf("%v told %v back in %v: %v, not %v", c, number, n, b, want)
		}
		if want := plainDrop(c, n); !same(d, want) {
			t.Fatalf("%v dropped in %v: %v, not %v", c, n, d, want)
		}
		asked[a.err]++
		back[b.err]++
		dropped[d.err]++
	}
	for _, err := range []api.Errno{api.OK, api.ErrRange, api.ErrNone, api.ErrPath, api.ErrFull, api.ErrBusy} {
		if asked[err] == 0 {
			t.Errorf("Ask never told %v", err)
		}
	}
	if back[api.OK] == 0 || back[api.ErrNone] == 0 || dropped[api.OK] == 0 || dropped[api.ErrBusy] == 0 {
		t.Errorf("Back told %v, Drop told %v", back, dropped)
	}
}

// played is a net whose orders are on their way.
type played struct {
	t        *testing.T
	net      api.Topo
	c        api.Control
	switches []api.Switch
	orders   [][]api.Order
}

// take has what was told go on its way; an order that is not right could not be.
func (p *played) take(c api.Control, told []api.To, err api.Errno) bool {
	if err != api.OK {
		return false
	}
	for _, x := range told {
		if wrong := wire.Wrong(x.Order); wrong != api.OK {
			p.t.Fatalf("%v is told, of which Wrong says %v", x, wrong)
		}
		p.orders[x.Switch] = append(p.orders[x.Switch], x.Order)
	}
	p.c = c
	return true
}

// arrive has the next order come to some switch, and tells it back.
func (p *played) arrive(draw func(n int) int) {
	s := draw(p.net.Switches)
	for len(p.orders[s]) == 0 {
		s = (s + 1) % p.net.Switches
	}
	o := p.orders[s][0]
	p.orders[s] = p.orders[s][1:]
	next, err := agent.Do(p.switches[s], o)
	if err != api.OK {
		p.t.Fatalf("%v comes to %v: %v", o, p.switches[s], err)
	}
	p.switches[s] = next
	if o.Kind == api.OrderStamp && p.c.Stage != api.Stamping {
		p.t.Fatalf("stamps are on their way while the stage is %v", p.c.Stage)
	}
	if !p.take(control.Back(p.c, p.net, o.Number)) {
		p.t.Fatalf("%v was waited for, and cannot be told back", o)
	}
}

// holds: where flows begin they are stamped with the plan's version, and its rules lead along their paths.
func (p *played) holds(plan api.Plan) {
	for number, f := range plan.Flows {
		for s := range p.switches {
			want := 0
			if s == f.From {
				want = plan.Version
			}
			if got := agent.Version(p.switches[s], number); got != want {
				p.t.Fatalf("%v: switch %v stamps flow %v with %v, not %v", plan, s, number, got, want)
			}
		}
		path := plan.Paths[number]
		for i, s := range path {
			next, there := rules.Next(p.switches[s].Rules, plan.Version, number)
			if last := i+1 == len(path); there == last || there && next != path[i+1] {
				p.t.Fatalf("%v: flow %v goes on from %v to %v %v", plan, number, s, next, there)
			}
		}
	}
}

// TestChangesOfSwitches plays change after change with switches: no order is refused, and in the end one plan holds, and is all that there is.
func TestChangesOfSwitches(t *testing.T) {
	draw := drawn(5)
	for range 60 {
		n := drawnNet(draw)
		if topo.Wrong(n).Err != api.OK {
			continue
		}
		p := &played{t: t, net: n, switches: make([]api.Switch, n.Switches), orders: make([][]api.Order, n.Switches)}
		for range 12 {
			if !p.take(control.Ask(p.c, n, drawnFlows(draw, n.Switches))) {
				continue
			}
			for len(p.c.Waits) > 0 {
				p.arrive(draw)
			}
			if p.c.Stage != api.Calm {
				t.Fatalf("nothing is waited for, and the stage is %v", p.c.Stage)
			}
			p.holds(p.c.Next)
			p.take(control.Drop(p.c, n))
			for len(p.c.Waits) > 0 {
				p.arrive(draw)
			}
			if p.c.Stage != api.Idle || p.c.Next.Version != 0 {
				t.Fatalf("all is dropped, and the control is %v", p.c)
			}
			p.holds(p.c.Now)
			for s, l := range rules.Of(p.c.Now, n.Switches) {
				if !slices.Equal(p.switches[s].Rules, l) {
					t.Fatalf("switch %v has %v, not %v alone", s, p.switches[s].Rules, l)
				}
			}
		}
	}
}
