package room_test

import (
	"math"
	"slices"
	"testing"

	"stampways/agent"
	"stampways/api"
	"stampways/control"
	"stampways/rules"
	"stampways/topo"
)

// plainTake says H2's third sentence over again.
func plainTake(w api.World, c api.Control, orders []api.To, err api.Errno) (api.World, api.Errno) {
	if err != api.OK {
		return w, err
	}
	w.Control = c
	w.Orders = slices.Clone(w.Orders)
	for _, x := range orders {
		w.Orders[x.Switch] = slices.Concat(w.Orders[x.Switch], []api.Order{x.Order})
	}
	return w, api.OK
}

// plainHappen says H2, and the end of H1, over again.
func plainHappen(w api.World, n api.Topo, d api.Do) (api.World, api.Errno) {
	switch d.Kind {
	case 1:
		c, orders, err := control.Ask(w.Control, n, d.Flows)
		w, err = plainTake(w, c, orders, err)
		if err == api.OK {
			w.Plans = slices.Concat(w.Plans, []api.Plan{c.Next})
		}
		return w, err
	case 2:
		if d.N < 0 || d.N >= n.Switches || len(w.Orders[d.N]) == 0 {
			return w, api.ErrNone
		}
		first := w.Orders[d.N][0]
		s, err := agent.Do(w.Switches[d.N], first)
		if err != api.OK {
			return w, err
		}
		w.Switches, w.Orders, w.Backs = slices.Clone(w.Switches), slices.Clone(w.Orders), slices.Clone(w.Backs)
		w.Switches[d.N], w.Orders[d.N], w.Backs[d.N] = s, w.Orders[d.N][1:], slices.Concat(w.Backs[d.N], []int{first.Number})
		return w, api.OK
	case 3:
		if d.N < 0 || d.N >= n.Switches || len(w.Backs[d.N]) == 0 {
			return w, api.ErrNone
		}
		c, orders, err := control.Back(w.Control, n, w.Backs[d.N][0])
		if err == api.OK {
			w.Backs = slices.Clone(w.Backs)
			w.Backs[d.N] = w.Backs[d.N][1:]
		}
		return plainTake(w, c, orders, err)
	case 4:
		return plainBegin(w, d.N)
	case 5:
		return plainMove(w, d.N)
	case 6:
		c, orders, err := control.Drop(w.Control, n)
		return plainTake(w, c, orders, err)
	}
	return w, api.ErrKind
}

// plainBegin says H3's first half over again.
func plainBegin(w api.World, flow int) (api.World, api.Errno) {
	inNow := flow >= 0 && flow < len(w.Control.Now.Flows)
	inNext := flow >= 0 && flow < len(w.Control.Next.Flows)
	if len(w.Packets) == 40 {
		return w, api.ErrMany
	}
	if !inNow && !inNext {
		return w, api.ErrNone
	}
	at := slices.IndexFunc(w.Switches, func(s api.Switch) bool { return agent.Version(s, flow) > 0 })
	if at < 0 && inNext {
		at = w.Control.Next.Flows[flow].From
	} else if at < 0 {
		at = w.Control.Now.Flows[flow].From
	}
	version := agent.Version(w.Switches[at], flow)
	w.Packets = slices.Concat(w.Packets, []api.Packet{{Flow: flow, Version: version, Trace: []int{at}, Done: version == 0}})
	return w, api.OK
}

// plainMove says H3's second half over again.
func plainMove(w api.World, n int) (api.World, api.Errno) {
	if n < 0 || n >= len(w.Packets) || w.Packets[n].Done {
		return w, api.ErrNone
	}
	p := w.Packets[n]
	next, there := rules.Next(w.Switches[p.Trace[len(p.Trace)-1]].Rules, p.Version, p.Flow)
	p.Done = !there
	if there {
		p.Trace = slices.Concat(p.Trace, []int{next})
	}
	w.Packets = slices.Clone(w.Packets)
	w.Packets[n] = p
	return w, api.OK
}

// plainPlay says H1 over again.
func plainPlay(n api.Topo, l []api.Do) answer {
	if fault := topo.Wrong(n); fault.Err != api.OK {
		return answer{fault: fault}
	}
	if len(l) > 200 {
		return answer{fault: api.Fault{Err: api.ErrMany}}
	}
	a := answer{w: fresh(n.Switches)}
	for _, d := range l {
		var err api.Errno
		a.w, err = plainHappen(a.w, n, d)
		a.came = append(a.came, err)
	}
	return a
}

// drawn are numbers below n, one behind the other, always the same ones.
func drawn(seed uint64) func(n int) int {
	return func(n int) int {
		seed = seed*6364136223846793005 + 1442695040888963407
		return int(seed>>33) % n
	}
}

func drawnOdd(draw func(n int) int) int {
	return []int{math.MinInt, -1, 0, 1, 2, 3, 7, 8, 11, 12, 39, 40, 1001, math.MaxInt}[draw(14)]
}

// drawnNet is a ring with some links across, and now and then a wrong one.
func drawnNet(draw func(n int) int) api.Topo {
	n := api.Topo{Switches: 3 + draw(6)}
	for a := range n.Switches {
		for b := range a {
			if a-b == 1 || a-b == n.Switches-1 || draw(4) == 0 {
				n.Links = append(n.Links, link(a, b, 1+draw(4)))
			}
		}
	}
	if draw(40) == 0 {
		n.Links = append(n.Links, link(drawnOdd(draw), drawnOdd(draw), drawnOdd(draw)))
	}
	return n
}

// drawnFlows are mostly right, begin at one switch or at many, and now and then have no path.
func drawnFlows(draw func(n int) int, switches int) []api.Flow {
	var l []api.Flow
	begins := draw(3 * switches)
	for range draw(13) {
		from := draw(switches)
		if begins < switches {
			from = begins
		}
		f := flow(from, (from+1+draw(switches-1))%switches)
		if x := draw(switches); x != f.From && x != f.To && draw(3) == 0 {
			f.Not = []int{x}
		} else if x != f.From && x != f.To && draw(3) == 0 {
			f.Via = []int{x}
		}
		l = append(l, f)
	}
	if draw(20) == 0 {
		l = append(l, flow(drawnOdd(draw), drawnOdd(draw)))
	}
	if switches > 3 && draw(20) == 0 {
		l = append(l, flow(0, 2, 1, switches-1))
	}
	return l
}

// drawnDo is mostly something that a change needs to go on.
func drawnDo(draw func(n int) int, switches int) []api.Do {
	switch draw(20) {
	case 0, 1, 2:
		return one(ask(drawnFlows(draw, switches)...))
	case 3, 4:
		return one(drop())
	case 5, 6:
		return one(begin(draw(6)))
	case 7, 8, 9:
		return one(move(draw(12)))
	case 10:
		return one(api.Do{Kind: drawnOdd(draw), N: drawnOdd(draw), Flows: []api.Flow{flow(0, 1)}})
	case 11:
		return one(api.Do{Kind: 1 + draw(6), N: drawnOdd(draw)})
	case 12, 13:
		return one(order(draw(switches)))
	case 14, 15:
		return one(back(draw(switches)))
	case 16:
		return times(8, move(draw(12)))
	}
	l := make([]int, switches)
	for i := range l {
		l[i] = (i*(1+2*draw(2)) + draw(switches)) % switches
	}
	return done(l...)
}

func drawnDos(draw func(n int) int, switches int) []api.Do {
	var l []api.Do
	for len(l) < api.MaxDo {
		l = append(l, drawnDo(draw, switches)...)
	}
	if draw(20) == 0 {
		return l
	}
	return l[:api.MaxDo]
}

// TestDrawnOnes: what is answered is what H1 to H3 say, whenever the play ends, and what must come of it does.
func TestDrawnOnes(t *testing.T) {
	draw := drawn(25)
	var came [api.ErrBusy + 1]int
	var seen sights
	for range 400 {
		n := drawnNet(draw)
		l := drawnDos(draw, n.Switches)
		for _, many := range []int{len(l), draw(len(l)), draw(len(l)), draw(len(l)), draw(len(l)), draw(40)} {
			got := play(n, l[:many])
			if want := plainPlay(n, l[:many]); told(got) != told(want) {
				t.Fatalf("%v of %v in %v:\n%v, not\n%v", many, l, n, got, want)
			}
			if got.fault.Err != api.OK {
				continue
			}
			for _, err := range got.came {
				came[err]++
			}
			checkWorld(t, n, got.w, &seen)
			if t.Failed() {
				t.Fatalf("%v of %v in %v", many, l, n)
			}
		}
	}
	for _, err := range []api.Errno{api.OK, api.ErrKind, api.ErrMany, api.ErrNone, api.ErrPath, api.ErrFull, api.ErrBusy} {
		if came[err] == 0 {
			t.Errorf("%v never came", err)
		}
	}
	if slices.Contains([]int{seen.settled, seen.whole, seen.half, seen.elder, seen.newer}, 0) {
		t.Errorf("not all was seen: %+v", seen)
	}
}

// sights count what the drawn worlds had, so that no check goes without anything to look at.
type sights struct{ settled, whole, half, elder, newer int }

// checkWorld holds a world against what the document says must come of it all.
func checkWorld(t *testing.T, n api.Topo, w api.World, seen *sights) {
	t.Helper()
	for i, plan := range w.Plans {
		if plan.Version != i+1 {
			t.Errorf("plan %d has version %v", i, plan.Version)
		}
	}
	for s, x := range w.Switches {
		if err := agent.Wrong(x); err != api.OK || len(x.Rules) > api.Cap {
			t.Errorf("switch %v is wrong: %v", s, err)
		}
		for _, m := range x.Stamps {
			checkStamp(t, w, m)
		}
	}
	for _, p := range w.Packets {
		checkPacket(t, w, p, seen)
	}
	checkWaits(t, w)
	if w.Control.Stage == api.Idle && len(w.Plans) > 0 {
		seen.settled++
		checkSettled(t, n, w)
	}
}

// isDropped tells whether a version's rules are being dropped, or are gone.
func isDropped(c api.Control, version int) bool {
	return version < c.Now.Version || version == c.Now.Version && c.Stage == api.Dropping
}

// checkStamp: stamps come behind all rules, and ahead of the dropping of elder ones.
func checkStamp(t *testing.T, w api.World, m api.Stamp) {
	t.Helper()
	if isDropped(w.Control, m.Version) {
		t.Errorf("%v, though that is dropped", m)
		return
	}
	for s, l := range rules.Of(w.Plans[m.Version-1], len(w.Switches)) {
		for _, r := range l {
			if !slices.Contains(w.Switches[s].Rules, r) {
				t.Errorf("%v, though rule %v is not there", m, r)
			}
		}
	}
}

// checkPacket: a packet goes along the path of its version; all of it, if its rules were not dropped meanwhile.
func checkPacket(t *testing.T, w api.World, p api.Packet, seen *sights) {
	t.Helper()
	if p.Version == 0 {
		if !p.Done || len(p.Trace) != 1 {
			t.Errorf("%v has no stamp, and goes", p)
		}
		return
	}
	path := w.Plans[p.Version-1].Paths[p.Flow]
	if len(p.Trace) > len(path) || !slices.Equal(p.Trace, path[:len(p.Trace)]) {
		t.Errorf("%v goes another way than %v", p, path)
	}
	if p.Done && len(p.Trace) < len(path) {
		seen.half++
		if !isDropped(w.Control, p.Version) {
			t.Errorf("%v ends ahead of %v, and nothing is dropped", p, path)
		}
	} else if p.Done {
		seen.whole++
	}
	if p.Version == w.Control.Next.Version {
		seen.newer++
	} else if p.Version == w.Control.Now.Version && w.Control.Next.Version > 0 {
		seen.elder++
	}
}

// checkWaits: what is waited for is on its way, there or back, and nothing else is.
func checkWaits(t *testing.T, w api.World) {
	t.Helper()
	numbers := slices.Concat(w.Backs...)
	for _, o := range slices.Concat(w.Orders...) {
		numbers = append(numbers, o.Number)
	}
	slices.Sort(numbers)
	if waits := slices.Sorted(slices.Values(w.Control.Waits)); !slices.Equal(numbers, waits) {
		t.Errorf("%v are on their way, and %v are waited for", numbers, waits)
	}
}

// checkSettled: one plan holds, the last one, and its rules and stamps are all that there are.
func checkSettled(t *testing.T, n api.Topo, w api.World) {
	t.Helper()
	last := w.Plans[len(w.Plans)-1]
	if told(w.Control.Now) != told(last) {
		t.Errorf("%v holds, not %v", w.Control.Now, last)
	}
	all := rules.Of(last, n.Switches)
	for s, x := range w.Switches {
		if !slices.Equal(x.Rules, all[s]) {
			t.Errorf("switch %v has rules %v, not %v", s, x.Rules, all[s])
		}
		for number, f := range last.Flows {
			if stamps := agent.Version(x, number) == last.Version; stamps != (f.From == s) {
				t.Errorf("switch %v: stamps %v of flow %v", s, x.Stamps, number)
			}
		}
	}
}
