package room_test

import (
	"slices"
	"testing"

	"stampways/api"
)

func packet(flow, version int, trace ...int) api.Packet {
	return api.Packet{Flow: flow, Version: version, Trace: trace}
}

func finished(p api.Packet) api.Packet {
	p.Done = true
	return p
}

// settled is a ring in which one plan holds, and its change is at its end.
func settled(l ...api.Flow) []api.Do {
	return then(one(ask(l...)), then(done(0, 1, 2, 3), done(0, 1, 2, 3)), one(drop()))
}

// TestBegin: H3, where a packet begins, and with which stamp.
func TestBegin(t *testing.T) {
	fewer := then(settled(flow(0, 1), flow(2, 3)), one(ask(flow(0, 1))), done(0))
	away := then(settled(flow(0, 3)), one(ask(flow(2, 3))), done(2))
	near := then(settled(flow(2, 3)), one(ask(flow(0, 1))), done(0))
	for _, c := range []struct {
		what string
		l    []api.Do
		flow int
		want api.Packet
	}{
		{"nothing is stamped yet", one(ask(flow(2, 0))), 0, finished(packet(0, 0, 2))},
		{"rules are there, and no stamp", then(one(ask(flow(0, 2))), done(0, 1)), 0, finished(packet(0, 0, 0))},
		{"a stamp is there", then(one(ask(flow(0, 2))), done(0, 1, 0)), 0, packet(0, 1, 0)},
		{"a stamp is there, not told back", then(one(ask(flow(0, 2))), done(0, 1), one(order(0))), 0, packet(0, 1, 0)},
		{"of another flow", then(one(ask(flow(0, 1), flow(3, 2))), done(0, 3), one(order(3))), 0, finished(packet(0, 0, 0))},
		{"the second flow", then(one(ask(flow(0, 1), flow(3, 2))), done(0, 3), one(order(3))), 1, packet(1, 1, 3)},
		{"the plan that holds", settled(flow(0, 1), flow(3, 2)), 1, packet(1, 1, 3)},
		{"the elder stamp, while rules are told", then(settled(flow(0, 3)), one(ask(flow(0, 3, 1)))), 0, packet(0, 1, 0)},
		{"the elder stamp, ahead of From of Next", then(settled(flow(3, 2)), one(ask(flow(0, 3)))), 0, packet(0, 1, 3)},
		{"a flow that is new", then(settled(flow(0, 3)), one(ask(flow(0, 3), flow(1, 0)))), 1, finished(packet(1, 0, 1))},

		{"a flow that begins elsewhere, nothing told", away, 0, packet(0, 1, 0)},
		{"two stamp it: the least one, the elder stamp", then(away, one(order(2))), 0, packet(0, 1, 0)},
		{"none stamps it any more, or yet: From of Next", then(away, one(order(0))), 0, finished(packet(0, 0, 2))},
		{"both are told", then(away, done(2, 0)), 0, packet(0, 2, 2)},
		{"two stamp it: the least one, the new stamp", then(near, one(order(0))), 0, packet(0, 2, 0)},
		{"none stamps it, From of Next is the least one", then(near, one(order(2))), 0, finished(packet(0, 0, 0))},

		{"a flow that is to go", fewer, 1, packet(1, 1, 2)},
		{"a flow that is gone: From of Now", then(fewer, one(order(2))), 1, finished(packet(1, 0, 2))},
		{"a flow that is gone, and all is calm", then(fewer, done(0, 2)), 1, finished(packet(1, 0, 2))},
		{"a flow that is gone, and rules are dropped", then(fewer, done(0, 2), one(drop())), 1, finished(packet(1, 0, 2))},
	} {
		before := play(ring, c.l)
		want := before.w
		want.Packets = []api.Packet{c.want}
		hold(t, c.what, play(ring, append(slices.Clone(c.l), begin(c.flow))), answer{w: want, came: append(before.came, api.OK)})
	}
}

// TestBeginErrors: H3, of flows that neither plan has, and of too many packets.
func TestBeginErrors(t *testing.T) {
	most := then(one(ask(flow(0, 1))), times(api.MaxPackets, begin(0)))
	after := then(settled(flow(0, 1), flow(2, 3)), one(ask(flow(0, 1))), done(0, 0, 2), one(drop()), done(0, 2))
	for _, c := range []struct {
		what string
		l    []api.Do
		flow int
		want api.Errno
	}{
		{"no plans", nil, 0, api.ErrNone},
		{"a plan without flows", one(ask()), 0, api.ErrNone},
		{"behind the last flow", settled(flow(0, 1), flow(2, 3)), 2, api.ErrNone},
		{"behind both plans' last flow", then(settled(flow(0, 1)), one(ask(flow(0, 1), flow(2, 3)))), 2, api.ErrNone},
		{"below 0", settled(flow(0, 1)), -1, api.ErrNone},
		{"a flow of a plan that was", after, 1, api.ErrNone},
		{"one more than the most", most, 0, api.ErrMany},
		{"too many ahead of no such flow", most, 1, api.ErrMany},
	} {
		before := play(ring, c.l)
		hold(t, c.what, play(ring, append(slices.Clone(c.l), begin(c.flow))), answer{w: before.w, came: append(before.came, c.want)})
	}
	if got := play(ring, most); got.last() != api.OK || len(got.w.Packets) != 40 {
		t.Errorf("the most packets: %v", got)
	}
}

// TestMove: H3, thing by thing, of packets of two plans.
func TestMove(t *testing.T) {
	l := then(settled(flow(0, 3)), one(begin(0), begin(0), ask(flow(0, 3, 1))), done(0), one(begin(0)))
	start := play(ring, l)
	hold(t, "three begin", start.w.Packets, []api.Packet{packet(0, 1, 0), packet(0, 1, 0), packet(0, 1, 0)})
	for i, step := range []struct {
		d    api.Do
		came api.Errno
		want []api.Packet
	}{
		{move(0), api.OK, []api.Packet{packet(0, 1, 0, 1), packet(0, 1, 0), packet(0, 1, 0)}},
		{order(0), api.OK, []api.Packet{packet(0, 1, 0, 1), packet(0, 1, 0), packet(0, 1, 0)}},
		{begin(0), api.OK, []api.Packet{packet(0, 1, 0, 1), packet(0, 1, 0), packet(0, 1, 0), packet(0, 2, 0)}},
		{move(3), api.OK, []api.Packet{packet(0, 1, 0, 1), packet(0, 1, 0), packet(0, 1, 0), packet(0, 2, 0, 3)}},
		{move(2), api.OK, []api.Packet{packet(0, 1, 0, 1), packet(0, 1, 0), packet(0, 1, 0, 1), packet(0, 2, 0, 3)}},
		{move(3), api.OK, []api.Packet{packet(0, 1, 0, 1), packet(0, 1, 0), packet(0, 1, 0, 1), finished(packet(0, 2, 0, 3))}},
		{move(3), api.ErrNone, []api.Packet{packet(0, 1, 0, 1), packet(0, 1, 0), packet(0, 1, 0, 1), finished(packet(0, 2, 0, 3))}},
		{move(0), api.OK, []api.Packet{packet(0, 1, 0, 1, 2), packet(0, 1, 0), packet(0, 1, 0, 1), finished(packet(0, 2, 0, 3))}},
		{move(0), api.OK, []api.Packet{packet(0, 1, 0, 1, 2, 3), packet(0, 1, 0), packet(0, 1, 0, 1), finished(packet(0, 2, 0, 3))}},
		{back(0), api.OK, []api.Packet{packet(0, 1, 0, 1, 2, 3), packet(0, 1, 0), packet(0, 1, 0, 1), finished(packet(0, 2, 0, 3))}},
		{drop(), api.OK, []api.Packet{packet(0, 1, 0, 1, 2, 3), packet(0, 1, 0), packet(0, 1, 0, 1), finished(packet(0, 2, 0, 3))}},
		{order(0), api.OK, []api.Packet{packet(0, 1, 0, 1, 2, 3), packet(0, 1, 0), packet(0, 1, 0, 1), finished(packet(0, 2, 0, 3))}},
		// The elder rules are gone at 0, and are there still at 1.
		{move(1), api.OK, []api.Packet{packet(0, 1, 0, 1, 2, 3), finished(packet(0, 1, 0)), packet(0, 1, 0, 1), finished(packet(0, 2, 0, 3))}},
		{move(2), api.OK, []api.Packet{packet(0, 1, 0, 1, 2, 3), finished(packet(0, 1, 0)), packet(0, 1, 0, 1, 2), finished(packet(0, 2, 0, 3))}},
		{move(0), api.OK, []api.Packet{finished(packet(0, 1, 0, 1, 2, 3)), finished(packet(0, 1, 0)), packet(0, 1, 0, 1, 2), finished(packet(0, 2, 0, 3))}},
		{move(0), api.ErrNone, []api.Packet{finished(packet(0, 1, 0, 1, 2, 3)), finished(packet(0, 1, 0)), packet(0, 1, 0, 1, 2), finished(packet(0, 2, 0, 3))}},
		{move(4), api.ErrNone, []api.Packet{finished(packet(0, 1, 0, 1, 2, 3)), finished(packet(0, 1, 0)), packet(0, 1, 0, 1, 2), finished(packet(0, 2, 0, 3))}},
	} {
		l = append(l, step.d)
		got := play(ring, l)
		if got.last() != step.came {
			t.Fatalf("step %d: %v, not %v", i, got.last(), step.came)
		}
		hold(t, "packets", got.w.Packets, step.want)
	}
}

// TestMoveByFlow: H3; rules of other flows, and of other versions, lead no packet.
func TestMoveByFlow(t *testing.T) {
	l := then(settled(flow(0, 2), flow(0, 3, 1), flow(1, 3)), one(begin(1), begin(0), begin(2)), times(9, move(0)), times(9, move(1)), times(9, move(2)))
	hold(t, "packets", play(ring, l).w.Packets,
		[]api.Packet{finished(packet(1, 1, 0, 3)), finished(packet(0, 1, 0, 1, 2)), finished(packet(2, 1, 1, 2, 3))})
}

// TestMoveErrors: H3, of packets that there are not, and of those that go no farther.
func TestMoveErrors(t *testing.T) {
	for _, c := range []struct {
		what string
		l    []api.Do
		n    int
	}{
		{"no packets", nil, 0},
		{"behind the last one", then(settled(flow(0, 1)), one(begin(0))), 1},
		{"below 0", then(settled(flow(0, 1)), one(begin(0))), -1},
		{"one that was never stamped", one(ask(flow(0, 1)), begin(0)), 0},
		{"one that was never stamped, though stamps are there now", then(one(ask(flow(0, 1)), begin(0)), done(0, 0)), 0},
		{"one that is there", then(settled(flow(0, 1)), one(begin(0), move(0), move(0))), 0},
	} {
		before := play(ring, c.l)
		hold(t, c.what, play(ring, append(slices.Clone(c.l), move(c.n))), answer{w: before.w, came: append(before.came, api.ErrNone)})
	}
}
