package agent_test

import (
	"math"
	"slices"
	"testing"

	"stampways/agent"
	"stampways/api"
	"stampways/rules"
	"stampways/wire"
)

func toAdd(version int, l ...api.Rule) api.Order {
	return api.Order{Kind: api.OrderAdd, Number: 1, Version: version, Rules: l}
}

func toStamp(version int, l ...int) api.Order {
	return api.Order{Kind: api.OrderStamp, Number: 1, Version: version, Flows: l}
}

func toDrop(version int) api.Order {
	return api.Order{Kind: api.OrderDrop, Number: 1, Version: version}
}

// with is o with lists that its kind may not have.
func with(o api.Order, l []api.Rule, flows []int) api.Order {
	o.Rules, o.Flows = l, flows
	return o
}

// goodOrders have nothing wrong, and go with some switches only.
func goodOrders() []api.Order {
	return []api.Order{
		toAdd(2), toAdd(2, rule(2, 1, 3), rule(2, 0, 3)), toAdd(3, rule(3, 0, 1)), toAdd(7, rule(7, 3, 4)), toAdd(1, flowsOf(1, 12)...),
		toStamp(7), toStamp(7, 0, 2), toStamp(1000, 11), toStamp(2, 0, 1, 2, 3, 4, 5, 6, 7, 8, 9, 10, 11),
		toDrop(1), toDrop(2), toDrop(9), toDrop(1000),
	}
}

func TestDo(t *testing.T) {
	l, stamps := []api.Rule{rule(1, 0, 1), rule(2, 0, 3)}, []api.Stamp{stamp(0, 1), stamp(5, 2)}
	s := api.Switch{Rules: l, Stamps: stamps}
	becomes := func(l []api.Rule, stamps []api.Stamp) api.Switch { return api.Switch{Rules: l, Stamps: stamps} }
	for _, c := range []struct {
		what string
		s    api.Switch
		o    api.Order
		want api.Switch
	}{
		{"no rules", s, toAdd(2), s},
		{"rules, sorted in", s, toAdd(2, rule(2, 5, 0), rule(2, 1, 7)), becomes([]api.Rule{l[0], l[1], rule(2, 1, 7), rule(2, 5, 0)}, stamps)},
		{"rules ahead of those that there are", s, toAdd(1, rule(1, 3, 3)), becomes([]api.Rule{l[0], rule(1, 3, 3), l[1]}, stamps)},
		{"a rule that is there", s, toAdd(2, l[1]), s},
		{"a rule twice", s, toAdd(3, rule(3, 0, 0), rule(3, 0, 0)), becomes([]api.Rule{l[0], l[1], rule(3, 0, 0)}, stamps)},
		{"rules to nothing", api.Switch{}, toAdd(2, rule(2, 1, 3), rule(2, 0, 3)), ruled(rule(2, 0, 3), rule(2, 1, 3))},
		{"to as many rules as there may be", ruled(full()[:15]...), toAdd(2, full()[15]), ruled(full()...)},
		{"to a full table what is there", ruled(full()...), toAdd(1, flowsOf(1, 12)...), ruled(full()...)},
		{"flows of rules mean nothing", s, with(toAdd(3), []api.Rule{rule(3, 0, 0)}, []int{9, 9, -1}), becomes([]api.Rule{l[0], l[1], rule(3, 0, 0)}, stamps)},

		{"stamps, and no others", s, toStamp(7, 0, 2), becomes(l, []api.Stamp{stamp(0, 7), stamp(2, 7)})},
		{"no stamps any more", s, toStamp(7), becomes(l, nil)},
		{"a stamp that is there", s, toStamp(1, 0), becomes(l, stamps[:1])},
		{"an elder version", s, toStamp(1, 5), becomes(l, []api.Stamp{stamp(5, 1)})},
		{"stamps to nothing", api.Switch{}, toStamp(1000, 11), stamped(stamp(11, 1000))},
		{"all stamps", s, toStamp(3, 0, 1, 2, 3, 4, 5, 6, 7, 8, 9, 10, 11), becomes(l, stampsOf(3, 12))},
		{"a version of which there are no rules", ruled(full()...), toStamp(9, 1), becomes(full(), []api.Stamp{stamp(1, 9)})},
		{"rules of stamps mean nothing", s, with(toStamp(7), make([]api.Rule, 17), []int{1}), becomes(l, []api.Stamp{stamp(1, 7)})},

		{"the elder version dropped", s, toDrop(1), becomes(l[1:], stamps)},
		{"the newer version dropped", s, toDrop(2), becomes(l[:1], stamps)},
		{"a version dropped that there is not", s, toDrop(9), s},
		{"the only version dropped", ruled(flowsOf(7, 12)...), toDrop(7), api.Switch{}},
		{"dropped from nothing", api.Switch{}, toDrop(1), api.Switch{}},
		{"stamps of what is dropped stay", stamped(stampsOf(4, 12)...), toDrop(4), stamped(stampsOf(4, 12)...)},
		{"rules and flows of a drop mean nothing", s, with(toDrop(1), make([]api.Rule, 17), []int{5, -5}), becomes(l[1:], stamps)},

		{"the greatest number", s, api.Order{Kind: api.OrderDrop, Number: 100000, Version: 1}, becomes(l[1:], stamps)},
	} {
		if got, err := agent.Do(c.s, c.o); err != api.OK || !same(got, c.want) {
			t.Errorf("%s: %v %v, not %v", c.what, got, err, c.want)
		}
	}
}

func TestDoErrors(t *testing.T) {
	s := api.Switch{Rules: []api.Rule{rule(1, 0, 1), rule(2, 0, 3)}, Stamps: []api.Stamp{stamp(0, 1), stamp(5, 2)}}
	filled := api.Switch{Rules: full(), Stamps: stampsOf(1, 12)}
	for _, c := range []struct {
		what string
		s    api.Switch
		o    api.Order
		want api.Errno
	}{
		{"no order", s, api.Order{}, api.ErrRange},
		{"number 0", s, api.Order{Kind: api.OrderDrop, Version: 1}, api.ErrRange},
		{"number too great", s, api.Order{Kind: api.OrderDrop, Number: 100001, Version: 1}, api.ErrRange},
		{"version 0", s, toDrop(0), api.ErrRange},
		{"version too great", s, toStamp(1001, 1), api.ErrRange},
		{"kind 0", s, api.Order{Number: 1, Version: 1}, api.ErrKind},
		{"kind 4", s, api.Order{Kind: 4, Number: 1, Version: 1}, api.ErrKind},
		{"far kinds", s, api.Order{Kind: math.MinInt, Number: 1, Version: 1}, api.ErrKind},
		{"too many rules told", api.Switch{}, toAdd(1, slices.Repeat([]api.Rule{rule(1, 0, 1)}, 17)...), api.ErrMany},
		{"a rule of another version", s, toAdd(3, rule(2, 1, 1)), api.ErrRange},
		{"a rule's flow too great", s, toAdd(3, rule(3, 12, 1)), api.ErrRange},
		{"a rule's next too great", s, toAdd(3, rule(3, 0, 8)), api.ErrRange},
		{"too many flows told", s, toStamp(1, make([]int, 13)...), api.ErrMany},
		{"a flow too great", s, toStamp(1, 12), api.ErrRange},
		{"falling flows", s, toStamp(1, 5, 4), api.ErrRange},
		{"a flow twice", s, toStamp(1, 5, 5), api.ErrRange},

		{"a rule leads elsewhere", s, toAdd(2, rule(2, 0, 4)), api.ErrForm},
		{"rules lead two ways", s, toAdd(3, rule(3, 0, 4), rule(3, 0, 5)), api.ErrForm},
		{"a good rule, and one that leads elsewhere", s, toAdd(1, rule(1, 5, 5), rule(1, 0, 0)), api.ErrForm},
		{"no room", filled, toAdd(3, rule(3, 0, 1)), api.ErrFull},
		{"no room, ahead of what leads elsewhere", filled, toAdd(1, rule(1, 0, 2)), api.ErrFull},
		{"room for some of them only", ruled(full()[:15]...), toAdd(3, rule(3, 0, 1), rule(3, 1, 1)), api.ErrFull},

		{"the order ahead of no room", filled, toAdd(3, rule(3, 0, 8)), api.ErrRange},
	} {
		if got, err := agent.Do(c.s, c.o); err != c.want || !same(got, api.Switch{}) {
			t.Errorf("%s: %v %v, not %v", c.what, got, err, c.want)
		}
	}
}

// TestDoOfWrongSwitches: what is wrong with the switch is told, whatever the order is, and be it wrong too.
func TestDoOfWrongSwitches(t *testing.T) {
	orders := append(goodOrders(), api.Order{}, api.Order{Kind: 4, Number: 1, Version: 1}, toAdd(1, make([]api.Rule, 17)...), toStamp(1, make([]int, 13)...))
	for _, c := range wrongSwitches() {
		for _, o := range orders {
			if got, err := agent.Do(c.s, o); err != c.want || !same(got, api.Switch{}) {
				t.Errorf("%s, and %v: %v %v, not %v", c.what, o, got, err, c.want)
			}
		}
	}
}

// plainDo says F1's sentence of Do over again, with what the chapters ahead offer.
func plainDo(s api.Switch, o api.Order) (api.Switch, api.Errno) {
	err := rules.Wrong(s.Rules).Err
	for i := 0; err == api.OK && i < len(s.Stamps); i++ {
		m := s.Stamps[i]
		if m.Flow < 0 || m.Flow > 11 || m.Version < 1 || m.Version > 1000 {
			err = api.ErrRange
		} else if i > 0 && s.Stamps[i-1].Flow >= m.Flow {
			err = api.ErrForm
		}
	}
	if err == api.OK {
		err = wire.Wrong(o)
	}
	if err == api.OK && o.Kind == 1 {
		s.Rules, err = rules.Add(s.Rules, o.Rules)
	}
	if err != api.OK {
		return api.Switch{}, err
	}
	if o.Kind == 2 {
		s.Stamps = nil
		for f := range 12 {
			if slices.Contains(o.Flows, f) {
				s.Stamps = append(s.Stamps, stamp(f, o.Version))
			}
		}
	}
	if o.Kind == 3 {
		s.Rules = rules.Drop(s.Rules, o.Version)
	}
	return s, api.OK
}

// drawn are numbers below n, one behind the other, always the same ones.
func drawn(seed uint64) func(n int) int {
	return func(n int) int {
		seed = seed*6364136223846793005 + 1442695040888963407
		return int(seed>>33) % n
	}
}

func drawnOdd(draw func(n int) int) int {
	return []int{math.MinInt, -1, 0, 1, 2, 7, 8, 11, 12, 1000, 1001, math.MaxInt}[draw(12)]
}

// drawnSwitch is mostly right, and wrong in one thing at most otherwise.
func drawnSwitch(draw func(n int) int) api.Switch {
	var s api.Switch
	for v := range 2 {
		for f := range 12 {
			if draw(3) == 0 {
				s.Rules = append(s.Rules, rule(1+v, f, draw(2)))
			}
		}
	}
	for f := range 12 {
		if draw(2) == 0 {
			s.Stamps = append(s.Stamps, stamp(f, 1+draw(3)))
		}
	}
	switch draw(20) {
	case 0:
		s.Rules = append(s.Rules, rule(drawnOdd(draw), drawnOdd(draw), drawnOdd(draw)))
	case 1:
		s.Rules = append(s.Rules, flowsOf(3, draw(12))...)
	case 2:
		s.Stamps = append(s.Stamps, stamp(drawnOdd(draw), 1))
	case 3:
		s.Stamps = append(s.Stamps, stamp(11, drawnOdd(draw)))
	case 4:
		s.Stamps = slices.Insert(s.Stamps, 0, stamp(drawnOdd(draw), 1))
	}
	return s
}

// drawnOrder is mostly right, and wrong in one thing at most otherwise.
func drawnOrder(draw func(n int) int) api.Order {
	o := api.Order{Kind: 1 + draw(3), Number: 1 + draw(100000), Version: 1 + draw(3)}
	for range draw(5) {
		o.Rules = append(o.Rules, rule(o.Version, draw(12), draw(2)))
	}
	for f := range 12 {
		if draw(2) == 0 {
			o.Flows = append(o.Flows, f)
		}
	}
	switch draw(20) {
	case 0:
		o.Kind = drawnOdd(draw)
	case 1:
		o.Number = drawnOdd(draw)
	case 2:
		o.Version = drawnOdd(draw)
	case 3:
		o.Flows = append(o.Flows, drawnOdd(draw))
	case 4:
		o.Rules = append(o.Rules, rule(o.Version, drawnOdd(draw), drawnOdd(draw)))
	case 5:
		o.Rules = append(o.Rules, make([]api.Rule, 17)...)
	case 6:
		o.Flows = append(o.Flows, make([]int, 13)...)
	}
	return o
}

// TestDoOfDrawnOnes: what is done is what F1 says, and nothing is wrong with a switch then.
func TestDoOfDrawnOnes(t *testing.T) {
	draw := drawn(11)
	var told [api.ErrBusy + 1]int
	for range 50000 {
		s, o := drawnSwitch(draw), drawnOrder(draw)
		want, wantErr := plainDo(s, o)
		got, err := agent.Do(s, o)
		if err != wantErr || !same(got, want) {
			t.Fatalf("%v and %v: %v %v, not %v %v", s, o, got, err, want, wantErr)
		}
		if wrong := agent.Wrong(got); wrong != api.OK {
			t.Fatalf("%v and %v: %v comes of it, of which Wrong says %v", s, o, got, wrong)
		}
		told[err]++
	}
	for _, err := range []api.Errno{api.OK, api.ErrKind, api.ErrForm, api.ErrRange, api.ErrMany, api.ErrFull} {
		if told[err] == 0 {
			t.Errorf("%v was never told", err)
		}
	}
}

// copyOf shares no memory with s.
func copyOf(s api.Switch) api.Switch {
	return api.Switch{Rules: slices.Clone(s.Rules), Stamps: slices.Clone(s.Stamps)}
}

// roomy is l with spare room behind it that is filled with wrong entries; and all of it.
func roomy[T any](l []T, wrong T) (part, all []T) {
	all = append(slices.Clone(l), wrong, wrong, wrong)
	return all[:len(l)], all
}

// TestOnlyReads: lists that are handed in, and the spare room behind them, are neither changed nor looked at, nor kept.
func TestOnlyReads(t *testing.T) {
	for _, good := range goodSwitches() {
		for _, order := range goodOrders() {
			want, wantErr := plainDo(copyOf(good), order)
			s, o := good, order
			var l, told []api.Rule
			var stamps []api.Stamp
			var flows []int
			s.Rules, l = roomy(good.Rules, rule(0, 99, 99))
			s.Stamps, stamps = roomy(good.Stamps, stamp(99, 99))
			o.Rules, told = roomy(order.Rules, rule(0, 99, 99))
			o.Flows, flows = roomy(order.Flows, 99)
			keptRules, keptStamps, keptTold, keptFlows := slices.Clone(l), slices.Clone(stamps), slices.Clone(told), slices.Clone(flows)

			got, err := agent.Do(s, o)
			if wrong, version := agent.Wrong(s), agent.Version(s, 99); wrong != api.OK || version != 0 {
				t.Errorf("the spare room is looked at: %v %v", wrong, version)
			}
			if !slices.Equal(l, keptRules) || !slices.Equal(stamps, keptStamps) || !slices.Equal(told, keptTold) || !slices.Equal(flows, keptFlows) {
				t.Errorf("what was handed in is changed: %v %v %v %v", l, stamps, told, flows)
			}
			clear(l)
			clear(stamps)
			clear(told)
			clear(flows)
			if err != wantErr || !same(got, want) {
				t.Errorf("%v and %v: %v %v, not %v %v", good, order, got, err, want, wantErr)
			}
		}
	}
}

// TestAnswersAreNewMemory: whatever is done to an answer, its spare room too, is seen nowhere else.
func TestAnswersAreNewMemory(t *testing.T) {
	for _, s := range goodSwitches() {
		for _, o := range goodOrders() {
			kept := copyOf(s)
			want, wantErr := plainDo(copyOf(s), o)
			first, _ := agent.Do(s, o)
			second, _ := agent.Do(s, o)
			clear(first.Rules[:cap(first.Rules)])
			clear(first.Stamps[:cap(first.Stamps)])
			third, err := agent.Do(s, o)
			if !same(s, kept) {
				t.Errorf("an answer shares memory with what was handed in: %v, not %v", s, kept)
			}
			if err != wantErr || !same(second, want) || !same(third, want) {
				t.Errorf("two answers share memory: %v, %v, not %v", second, third, want)
			}
		}
	}
}

func TestNilAndEmptyAreTheSame(t *testing.T) {
	for _, s := range []api.Switch{{}, {Rules: []api.Rule{}}, {Stamps: []api.Stamp{}}, {Rules: []api.Rule{}, Stamps: []api.Stamp{}}} {
		if err, version := agent.Wrong(s), agent.Version(s, 0); err != api.OK || version != 0 {
			t.Errorf("%v %v", err, version)
		}
		for _, o := range []api.Order{toAdd(2), toStamp(2), toDrop(2)} {
			for _, l := range [][]api.Rule{nil, {}} {
				for _, flows := range [][]int{nil, {}} {
					if got, err := agent.Do(s, with(o, l, flows)); err != api.OK || !same(got, api.Switch{}) {
						t.Errorf("%v: %v %v", o, got, err)
					}
				}
			}
		}
	}
}

// TestOneAfterTheOther plays a change at a switch at which a flow begins: rules first, stamps then, and the elder rules go.
func TestOneAfterTheOther(t *testing.T) {
	var s api.Switch
	for i, step := range []struct {
		o       api.Order
		rules   int
		version int
	}{
		{toAdd(1, rule(1, 0, 1), rule(1, 4, 2)), 2, 0},
		{toStamp(1, 0), 2, 1},
		{toAdd(2, rule(2, 0, 3)), 3, 1},
		{toAdd(2, rule(2, 0, 3)), 3, 1},
		{toStamp(2, 0), 3, 2},
		{toDrop(1), 1, 2},
		{toStamp(3), 1, 0},
	} {
		next, err := agent.Do(s, step.o)
		if err != api.OK || len(next.Rules) != step.rules || agent.Version(next, 0) != step.version {
			t.Fatalf("step %d: %v %v", i, next, err)
		}
		s = next
	}
}
