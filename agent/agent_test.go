package agent_test

import (
	"math"
	"slices"
	"testing"

	"stampways/agent"
	"stampways/api"
)

func rule(version, flow, next int) api.Rule {
	return api.Rule{Version: version, Flow: flow, Next: next}
}

func stamp(flow, version int) api.Stamp {
	return api.Stamp{Flow: flow, Version: version}
}

// flowsOf are rules of a version for so many flows, from 0 on, all to switch 1.
func flowsOf(version, many int) []api.Rule {
	var out []api.Rule
	for f := range many {
		out = append(out, rule(version, f, 1))
	}
	return out
}

// full is a table without room.
func full() []api.Rule { return append(flowsOf(1, 12), flowsOf(2, 4)...) }

// stampsOf are stamps of a version for so many flows, from 0 on.
func stampsOf(version, many int) []api.Stamp {
	var out []api.Stamp
	for f := range many {
		out = append(out, stamp(f, version))
	}
	return out
}

func ruled(l ...api.Rule) api.Switch { return api.Switch{Rules: l} }

func stamped(l ...api.Stamp) api.Switch { return api.Switch{Stamps: l} }

// same holds switches against each other; lists without entries are the same.
func same(a, b api.Switch) bool {
	return slices.Equal(a.Rules, b.Rules) && slices.Equal(a.Stamps, b.Stamps)
}

// wrongSwitches are told of by Wrong, and by Do whatever the order is.
func wrongSwitches() []wrongSwitch {
	bad := []api.Stamp{stamp(12, 0)}
	return []wrongSwitch{
		{"a rule too many", ruled(append(full(), rule(3, 0, 0))...), api.ErrFull},
		{"a rule's version 0", ruled(rule(0, 0, 1)), api.ErrRange},
		{"a rule's version too great", ruled(rule(1001, 0, 1)), api.ErrRange},
		{"a rule's flow too great", ruled(rule(1, 0, 1), rule(1, 12, 1)), api.ErrRange},
		{"a rule's next too great", ruled(rule(1, 0, 8)), api.ErrRange},
		{"falling rules", ruled(rule(2, 0, 1), rule(1, 0, 3)), api.ErrForm},
		{"a rule twice", ruled(rule(1, 0, 1), rule(1, 0, 1)), api.ErrForm},

		{"a stamp's flow below 0", stamped(stamp(-1, 1)), api.ErrRange},
		{"a stamp's flow too great", stamped(stamp(12, 1)), api.ErrRange},
		{"a stamp's flow too great, behind all others", stamped(append(stampsOf(1, 12), stamp(12, 1))...), api.ErrRange},
		{"a stamp's version 0", stamped(stamp(0, 0)), api.ErrRange},
		{"a stamp's version below 0", stamped(stamp(0, -1)), api.ErrRange},
		{"a stamp's version too great", stamped(stamp(0, 1), stamp(1, 1001)), api.ErrRange},
		{"far flows", stamped(stamp(math.MinInt, 1)), api.ErrRange},
		{"far versions", stamped(stamp(1, math.MaxInt)), api.ErrRange},
		{"noughts", stamped(make([]api.Stamp, 40)...), api.ErrRange},
		{"falling stamps", stamped(stamp(5, 1), stamp(0, 1)), api.ErrForm},
		{"falling stamps, rising versions", stamped(stamp(5, 1), stamp(4, 2)), api.ErrForm},
		{"a stamp twice", stamped(stamp(1, 1), stamp(1, 1)), api.ErrForm},
		{"a flow stamped twice", stamped(stamp(0, 1), stamp(1, 1), stamp(1, 2)), api.ErrForm},
		{"the last stamp of as many as there may be", stamped(append(stampsOf(1, 11), stamp(10, 1))...), api.ErrForm},
		{"more stamps than flows", stamped(append(stampsOf(1, 12), stamp(11, 1))...), api.ErrForm},

		{"range ahead of form", stamped(stamp(5, 1), stamp(0, 0)), api.ErrRange},
		{"the first stamp that is wrong: form", stamped(stamp(5, 1), stamp(0, 1), stamp(12, 1)), api.ErrForm},
		{"the first stamp that is wrong: range", stamped(stamp(5, 0), stamp(0, 1)), api.ErrRange},
		{"rules ahead of stamps: full", api.Switch{Rules: make([]api.Rule, 17), Stamps: bad}, api.ErrFull},
		{"rules ahead of stamps: form", api.Switch{Rules: []api.Rule{rule(2, 0, 1), rule(1, 0, 3)}, Stamps: bad}, api.ErrForm},
		{"rules ahead of stamps: range", api.Switch{Rules: []api.Rule{rule(0, 0, 1)}, Stamps: []api.Stamp{stamp(1, 1), stamp(1, 1)}}, api.ErrRange},
		{"good rules, wrong stamps", api.Switch{Rules: full(), Stamps: bad}, api.ErrRange},
	}
}

type wrongSwitch struct {
	what string
	s    api.Switch
	want api.Errno
}

// goodSwitches have nothing wrong.
func goodSwitches() []api.Switch {
	return []api.Switch{
		{},
		ruled(rule(1, 0, 0)),
		ruled(rule(1000, 11, 7)),
		ruled(full()...),
		stamped(stamp(0, 1)),
		stamped(stamp(11, 1000)),
		stamped(stamp(0, 9), stamp(3, 2), stamp(4, 9)),
		stamped(stampsOf(1, 12)...),
		{Rules: []api.Rule{rule(1, 0, 1), rule(2, 0, 3)}, Stamps: []api.Stamp{stamp(0, 1), stamp(5, 2)}},
		{Rules: []api.Rule{rule(7, 3, 4)}, Stamps: []api.Stamp{stamp(3, 8)}},
		{Rules: full(), Stamps: stampsOf(1000, 12)},
	}
}

func TestWrong(t *testing.T) {
	for _, s := range goodSwitches() {
		if got := agent.Wrong(s); got != api.OK {
			t.Errorf("%v: %v, not OK", s, got)
		}
	}
	for _, c := range wrongSwitches() {
		if got := agent.Wrong(c.s); got != c.want {
			t.Errorf("%s: %v, not %v", c.what, got, c.want)
		}
	}
}

// TestWrongOfPairs goes through all two stamps whose numbers stand at the edges.
func TestWrongOfPairs(t *testing.T) {
	var all []api.Stamp
	for _, f := range []int{math.MinInt, -1, 0, 1, 10, 11, 12, math.MaxInt} {
		for _, v := range []int{math.MinInt, -1, 0, 1, 2, 1000, 1001, math.MaxInt} {
			all = append(all, stamp(f, v))
		}
	}
	isRange := func(m api.Stamp) bool { return m.Flow < 0 || m.Flow > 11 || m.Version < 1 || m.Version > 1000 }
	for _, a := range all {
		for _, b := range all {
			want := api.OK
			if isRange(a) || isRange(b) {
				want = api.ErrRange
			} else if a.Flow >= b.Flow {
				want = api.ErrForm
			}
			if got := agent.Wrong(stamped(a, b)); got != want {
				t.Fatalf("%v %v: %v, not %v", a, b, got, want)
			}
		}
	}
}

func TestVersion(t *testing.T) {
	good := api.Switch{Rules: []api.Rule{rule(6, 1, 1)}, Stamps: []api.Stamp{stamp(0, 3), stamp(2, 1000), stamp(11, 1)}}
	mixed := stamped(stamp(4, 2), stamp(4, 7), stamp(-9, 5), stamp(4, 2), stamp(0, 0), stamp(0, 8), stamp(math.MaxInt, math.MinInt))
	for _, c := range []struct {
		what string
		s    api.Switch
		flow int
		want int
	}{
		{"that was told no stamp", api.Switch{}, 0, 0},
		{"that has rules alone", ruled(full()...), 0, 0},
		{"the first stamp", good, 0, 3},
		{"between others", good, 2, 1000},
		{"the last stamp", good, 11, 1},
		{"a flow without a stamp, with a rule", good, 1, 0},
		{"a flow that is a version", good, 3, 0},
		{"a flow below 0", good, -1, 0},
		{"a flow too great", good, 12, 0},
		{"far below 0", good, math.MinInt, 0},
		{"far too great", good, math.MaxInt, 0},
		{"of two the first one", mixed, 4, 2},
		{"of wrong stamps: whatever flow it is", mixed, -9, 5},
		{"of wrong stamps: the first one, though it has no version", mixed, 0, 0},
		{"of wrong stamps: whatever version it is", mixed, math.MaxInt, math.MinInt},
		{"of wrong rules", api.Switch{Rules: make([]api.Rule, 17), Stamps: stampsOf(9, 3)}, 2, 9},
		{"of very many", stamped(append(make([]api.Stamp, 1000), stamp(7, 5))...), 7, 5},
	} {
		if got := agent.Version(c.s, c.flow); got != c.want {
			t.Errorf("%s: %v, not %v", c.what, got, c.want)
		}
	}
}

// TestVersionOfAllFlows: each flow is looked for by itself.
func TestVersionOfAllFlows(t *testing.T) {
	for _, s := range goodSwitches() {
		var want [api.MaxFlows]int
		for _, m := range s.Stamps {
			want[m.Flow] = m.Version
		}
		for f := range want {
			if got := agent.Version(s, f); got != want[f] {
				t.Errorf("%v: flow %v: %v, not %v", s, f, got, want[f])
			}
		}
	}
}
