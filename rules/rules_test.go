package rules_test

import (
	"math"
	"slices"
	"testing"

	"stampways/api"
	"stampways/paths"
	"stampways/rules"
)

func rule(version, flow, next int) api.Rule {
	return api.Rule{Version: version, Flow: flow, Next: next}
}

func plan(version int, l ...api.Path) api.Plan { return api.Plan{Version: version, Paths: l} }

func sameRules(a, b []api.Rule) bool { return slices.Equal(a, b) }

func sameTables(a, b [][]api.Rule) bool { return slices.EqualFunc(a, b, sameRules) }

func TestOf(t *testing.T) {
	three := plan(3, api.Path{0, 1, 2}, api.Path{2, 0}, api.Path{1}, nil, api.Path{3, 7, 0})
	for _, c := range []struct {
		what     string
		plan     api.Plan
		switches int
		want     [][]api.Rule
	}{
		{"no paths", plan(1), 2, [][]api.Rule{nil, nil}},
		{"a path of three switches has two rules", plan(1, api.Path{0, 1, 2}), 3, [][]api.Rule{{rule(1, 0, 1)}, {rule(1, 0, 2)}, nil}},
		{"a path of one switch has none", plan(1, api.Path{0}), 1, [][]api.Rule{nil}},
		{"a path's number is its flow", plan(7, nil, api.Path{1, 0}), 2, [][]api.Rule{nil, {rule(7, 1, 0)}}},
		{"flows that a plan has are not asked", api.Plan{Version: 2, Flows: []api.Flow{{From: 5, To: 6}}, Paths: []api.Path{{1, 0}}}, 2, [][]api.Rule{nil, {rule(2, 0, 0)}}},
		{"flows without paths have none", api.Plan{Version: 2, Flows: []api.Flow{{From: 0, To: 1}}}, 2, [][]api.Rule{nil, nil}},
		{"path by path", plan(1, api.Path{0, 1}, api.Path{2, 0, 3}, api.Path{0, 2, 1}), 4, [][]api.Rule{{rule(1, 0, 1), rule(1, 1, 3), rule(1, 2, 2)}, nil, {rule(1, 1, 0), rule(1, 2, 1)}, nil}},
		{"all switches that are met", three, 8, [][]api.Rule{{rule(3, 0, 1)}, {rule(3, 0, 2)}, {rule(3, 1, 0)}, {rule(3, 4, 7)}, nil, nil, nil, {rule(3, 4, 0)}}},
		{"rules at switches that there are not", three, 4, [][]api.Rule{{rule(3, 0, 1)}, {rule(3, 0, 2)}, {rule(3, 1, 0)}, {rule(3, 4, 7)}}},
		{"one switch", three, 1, [][]api.Rule{{rule(3, 0, 1)}}},
		{"no switches", three, 0, nil},
		{"fewer than none", three, -1, nil},
		{"far fewer than none", three, math.MinInt, nil},

		{"a path with switches below 0", plan(1, api.Path{-1, 0, -2, 1}), 2, [][]api.Rule{{rule(1, 0, -2)}, nil}},
		{"a path with far switches", plan(1, api.Path{math.MaxInt, 0, math.MinInt, 1, math.MaxInt}), 2, [][]api.Rule{{rule(1, 0, math.MinInt)}, {rule(1, 0, math.MaxInt)}}},
		{"a switch twice, as it is met", plan(1, api.Path{0, 1, 0, 0, 2}), 2, [][]api.Rule{{rule(1, 0, 1), rule(1, 0, 0), rule(1, 0, 2)}, {rule(1, 0, 0)}}},
		{"versions are not looked at", plan(0, api.Path{0, 1}), 1, [][]api.Rule{{rule(0, 0, 1)}}},
		{"below 0 neither", plan(-5, api.Path{0, 1}), 1, [][]api.Rule{{rule(-5, 0, 1)}}},
		{"more switches than a net has", plan(1, api.Path{9, 0}), 10, [][]api.Rule{9: {rule(1, 0, 0)}}},
	} {
		if got := rules.Of(c.plan, c.switches); !sameTables(got, c.want) {
			t.Errorf("%s: %v, not %v", c.what, got, c.want)
		}
	}
}

// TestOfMorePathsThanFlowsMayBe: numbers of paths go on behind MaxFlows.
func TestOfMorePathsThanFlowsMayBe(t *testing.T) {
	got := rules.Of(plan(1, slices.Repeat([]api.Path{{0, 1}}, 30)...), 1)
	if len(got) != 1 || len(got[0]) != 30 {
		t.Fatalf("%v", got)
	}
	for i, r := range got[0] {
		if r != rule(1, i, 1) {
			t.Errorf("%d: %v", i, r)
		}
	}
}

// TestOfMoreSwitchesThanCanBeTold: nothing is promised there, but that it ends.
func TestOfMoreSwitchesThanCanBeTold(t *testing.T) {
	if got := rules.Of(plan(1, api.Path{0, 1}), math.MaxInt); len(got) > 0 {
		t.Errorf("%d lists", len(got))
	}
}

// drawn are numbers below n, one behind the other, always the same ones.
func drawn(seed uint64) func(n int) int {
	return func(n int) int {
		seed = seed*6364136223846793005 + 1442695040888963407
		return int(seed>>33) % n
	}
}

// plainOf says D1 over again, a switch at a time.
func plainOf(p api.Plan, s int) []api.Rule {
	var out []api.Rule
	for number, path := range p.Paths {
		for i, x := range path {
			if x == s && i != len(path)-1 {
				out = append(out, rule(p.Version, number, path[i+1]))
			}
		}
	}
	return out
}

// TestOfDrawnPlans holds Of against D1, with paths of which most are none of any net.
func TestOfDrawnPlans(t *testing.T) {
	draw := drawn(4)
	for range 5000 {
		p := plan(draw(5))
		for range draw(5) {
			var path api.Path
			for range draw(6) {
				path = append(path, draw(7)-1)
			}
			p.Paths = append(p.Paths, path)
		}
		n := draw(7)
		got := rules.Of(p, n)
		if len(got) != n {
			t.Fatalf("%v: %d lists, not %d", p, len(got), n)
		}
		for s, l := range got {
			if want := plainOf(p, s); !slices.Equal(l, want) {
				t.Fatalf("%v: at %d: %v, not %v", p, s, l, want)
			}
		}
	}
}

// mesh joins each two of so many switches.
func mesh(switches int) api.Topo {
	t := api.Topo{Switches: switches}
	for a := range switches {
		for b := range a {
			t.Links = append(t.Links, api.Link{A: a, B: b, Cost: 1 + (a*b)%5})
		}
	}
	return t
}

// TestRulesLeadAlongThePath: a plan's rules are tables, and who asks Next from switch to switch goes the path, and stops at its end.
func TestRulesLeadAlongThePath(t *testing.T) {
	const version = 6
	draw := drawn(5)
	for range 50 {
		n := 2 + draw(7)
		var l []api.Flow
		for range draw(api.MaxFlows + 1) {
			from := draw(n)
			l = append(l, api.Flow{From: from, To: (from + 1 + draw(n-1)) % n})
		}
		p, fault := paths.Plan(mesh(n), version, l)
		if fault.Err != api.OK {
			t.Fatalf("%v: %v", l, fault)
		}
		tables := rules.Of(p, n)
		for s, table := range tables {
			if fault := rules.Wrong(table); fault != (api.Fault{}) {
				t.Fatalf("at %d: %v: %v", s, table, fault)
			}
		}
		for number, path := range p.Paths {
			way := api.Path{path[0]}
			for next, ok := rules.Next(tables[path[0]], version, number); ok; next, ok = rules.Next(tables[next], version, number) {
				way = append(way, next)
			}
			if !slices.Equal(way, path) {
				t.Fatalf("%v, not %v", way, path)
			}
		}
	}
}

// TestOfOnlyReads: neither a plan's lists nor the spare room behind them are changed, looked at, or kept.
func TestOfOnlyReads(t *testing.T) {
	path := api.Path{0, 1, 2, 0, 1}
	room := []api.Path{path[:3], {1, 0}, {2, 1, 0}}
	p := plan(4, room[:2]...)
	want := [][]api.Rule{{rule(4, 0, 1)}, {rule(4, 0, 2), rule(4, 1, 0)}, nil}
	got := rules.Of(p, 3)
	if !sameTables(got, want) {
		t.Errorf("%v, not %v", got, want)
	}
	if !slices.Equal(path, api.Path{0, 1, 2, 0, 1}) || !slices.Equal(room[1], api.Path{1, 0}) || !slices.Equal(room[2], api.Path{2, 1, 0}) {
		t.Errorf("what was handed in is changed: %v %v", path, room)
	}
	clear(path)
	clear(room)
	if !sameTables(got, want) {
		t.Errorf("an answer changed with what was handed in: %v", got)
	}
}

// TestOfAnswersNewMemory spoils an answer, list by list, with the spare room behind each, and looks at all that is left.
func TestOfAnswersNewMemory(t *testing.T) {
	p := plan(1, api.Path{0, 1, 2}, api.Path{2, 1, 0}, api.Path{1, 0, 2})
	want := [][]api.Rule{{rule(1, 0, 1), rule(1, 2, 2)}, {rule(1, 0, 2), rule(1, 1, 0), rule(1, 2, 0)}, {rule(1, 1, 1)}}
	first, second := rules.Of(p, 3), rules.Of(p, 3)
	for i, l := range first {
		clear(l[:cap(l)])
		if !sameTables(first[i+1:], want[i+1:]) {
			t.Fatalf("list %d of an answer shares memory: %v", i, first)
		}
	}
	clear(first[:cap(first)])
	if !sameTables(second, want) || !sameTables(rules.Of(p, 3), want) {
		t.Errorf("two answers share memory: %v", second)
	}
}

func TestOfNilAndEmpty(t *testing.T) {
	for _, l := range [][]api.Path{nil, {}, {nil}, {{}}, {nil, {}}} {
		if got := rules.Of(plan(1, l...), 2); !sameTables(got, [][]api.Rule{nil, nil}) {
			t.Errorf("%v: %v", l, got)
		}
	}
}
