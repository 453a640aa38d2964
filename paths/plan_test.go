package paths_test

import (
	"math"
	"slices"
	"testing"

	"stampways/api"
	"stampways/paths"
)

func sameFlow(f, g api.Flow) bool {
	return f.From == g.From && f.To == g.To && slices.Equal(f.Via, g.Via) && slices.Equal(f.Not, g.Not)
}

func samePath(p, q api.Path) bool { return slices.Equal(p, q) }

func samePlan(p, q api.Plan) bool {
	return p.Version == q.Version && slices.EqualFunc(p.Flows, q.Flows, sameFlow) && slices.EqualFunc(p.Paths, q.Paths, samePath)
}

func TestPlan(t *testing.T) {
	asked := []api.Flow{plain(0, 3), flow(3, 0, nil, []int{1}), flow(1, 2, []int{0, 3}, nil), plain(0, 3)}
	answer := []api.Path{{0, 1, 2, 3}, {3, 0}, {1, 0, 3, 2}, {0, 1, 2, 3}}
	for _, version := range []int{1, 2, 999, api.MaxVersion} {
		for n := range len(asked) + 1 {
			got, fault := paths.Plan(ring, version, asked[:n])
			if want := (api.Plan{Version: version, Flows: asked[:n], Paths: answer[:n]}); fault != (api.Fault{}) || !samePlan(got, want) {
				t.Errorf("%v %v, not %v", got, fault, want)
			}
		}
	}
}

func TestPlanOfMostFlows(t *testing.T) {
	n := mesh(8, func(a, b int) int { return 1 + (a*b)%5 })
	draw := drawn(8)
	var l []api.Flow
	for i := range api.MaxFlows {
		s := order(draw, 8)
		l = append(l, flow(s[0], s[1], s[2:2+i%5], s[7:]))
	}
	got, fault := paths.Plan(n, 7, l)
	if fault != (api.Fault{}) || got.Version != 7 || len(got.Paths) != len(l) || !slices.EqualFunc(got.Flows, l, sameFlow) {
		t.Fatalf("%v %v", got, fault)
	}
	for i, f := range l {
		if want, err := paths.Find(n, f); err != api.OK || !slices.Equal(got.Paths[i], want) {
			t.Errorf("%v: %v, not %v %v", f, got.Paths[i], want, err)
		}
	}
}

func TestPlanErrors(t *testing.T) {
	bad := []api.Flow{plain(0, 1), plain(1, 1)}
	for fault, n := range wrongNets() {
		for _, version := range []int{0, 1} {
			for _, l := range [][]api.Flow{nil, bad, make([]api.Flow, 13)} {
				if got, f := paths.Plan(n, version, l); f != fault || !isZero(got) {
					t.Errorf("%v: %v %v, not %v", n, got, f, fault)
				}
			}
		}
	}
	lost := flow(0, 2, nil, []int{1, 3})
	many := slices.Repeat([]api.Flow{plain(0, 1)}, api.MaxFlows+1)
	for _, c := range []struct {
		what    string
		version int
		l       []api.Flow
		want    api.Fault
	}{
		{"no version", 0, nil, api.Fault{Err: api.ErrRange}},
		{"below 0", -1, nil, api.Fault{Err: api.ErrRange}},
		{"too great", api.MaxVersion + 1, nil, api.Fault{Err: api.ErrRange}},
		{"far", math.MinInt, nil, api.Fault{Err: api.ErrRange}},
		{"far up", math.MaxInt, nil, api.Fault{Err: api.ErrRange}},
		{"version ahead of flows", 0, bad, api.Fault{Err: api.ErrRange}},
		{"version ahead of how many", 1001, many, api.Fault{Err: api.ErrRange}},
		{"version ahead of paths", 0, []api.Flow{lost}, api.Fault{Err: api.ErrRange}},

		{"too many", 1, many, api.Fault{Err: api.ErrMany}},
		{"to itself", 1, bad, api.Fault{Err: api.ErrFit, At: 1}},
		{"none", 1, []api.Flow{plain(0, 1), plain(1, 0), plain(1, 4)}, api.Fault{Err: api.ErrNone, At: 2}},
		{"twice", 1, []api.Flow{flow(0, 1, []int{2, 2}, nil), plain(4, 4)}, api.Fault{Err: api.ErrName}},
		{"all flows are right ahead of any path", 1, []api.Flow{lost, plain(1, 1)}, api.Fault{Err: api.ErrFit, At: 1}},

		{"no path", 1, []api.Flow{lost}, api.Fault{Err: api.ErrPath}},
		{"no path for the last one", 1, []api.Flow{plain(0, 1), plain(1, 2), lost}, api.Fault{Err: api.ErrPath, At: 2}},
		{"the first one without a path", 1, []api.Flow{plain(0, 1), lost, plain(1, 2), lost}, api.Fault{Err: api.ErrPath, At: 1}},
	} {
		if got, f := paths.Plan(ring, c.version, c.l); f != c.want || !isZero(got) {
			t.Errorf("%s: %v %v, not %v", c.what, got, f, c.want)
		}
	}
}

// TestOnlyReads: lists that are handed in, and the spare room behind them, are neither changed nor looked at, nor kept.
func TestOnlyReads(t *testing.T) {
	links := append(slices.Clone(ring.Links), link(0, 2, 1), link(9, 9, 9))
	via, not := []int{3, 1, 3}, []int{1, 3, -1}
	room := []api.Flow{flow(0, 2, via[:1], not[:1]), flow(1, 0, via[:1], nil), plain(7, 7)}
	n, l := net(4, links[:4]...), room[:2]
	keptLinks, keptVia, keptNot := slices.Clone(links), slices.Clone(via), slices.Clone(not)

	found, err := paths.Find(n, l[0])
	if want := (api.Path{0, 3, 2}); err != api.OK || !slices.Equal(found, want) {
		t.Errorf("find: %v %v", found, err)
	}
	want := api.Plan{
		Version: 1,
		Flows:   []api.Flow{flow(0, 2, []int{3}, []int{1}), flow(1, 0, []int{3}, nil)},
		Paths:   []api.Path{{0, 3, 2}, {1, 2, 3, 0}},
	}
	plan, fault := paths.Plan(n, 1, l)
	if fault != (api.Fault{}) || !samePlan(plan, want) {
		t.Errorf("plan: %v %v", plan, fault)
	}
	if !slices.Equal(links, keptLinks) || !slices.Equal(via, keptVia) || !slices.Equal(not, keptNot) || !sameFlow(room[2], plain(7, 7)) {
		t.Error("what was handed in is changed")
	}
	clear(links)
	clear(via)
	clear(not)
	clear(room)
	if !samePlan(plan, want) || !slices.Equal(found, api.Path{0, 3, 2}) {
		t.Errorf("an answer changed with what was handed in: %v %v", plan, found)
	}
}

// TestAnswersAreNewMemory spoils an answer, list by list, with the spare room behind each, and looks at all that is left.
func TestAnswersAreNewMemory(t *testing.T) {
	n := mesh(8, one)
	l := []api.Flow{flow(0, 1, []int{2, 3, 4}, []int{5, 6, 7}), flow(1, 0, []int{4, 3, 2}, []int{7})}
	want := api.Plan{
		Version: 5,
		Flows:   []api.Flow{flow(0, 1, []int{2, 3, 4}, []int{5, 6, 7}), flow(1, 0, []int{4, 3, 2}, []int{7})},
		Paths:   []api.Path{{0, 2, 3, 4, 1}, {1, 4, 3, 2, 0}},
	}
	first, _ := paths.Plan(n, 5, l)
	second, _ := paths.Plan(n, 5, l)
	listed := func(p api.Plan) [][]int {
		return [][]int{p.Paths[0], p.Flows[0].Via, p.Flows[0].Not, p.Paths[1], p.Flows[1].Via, p.Flows[1].Not}
	}
	for i, spoilt := range listed(first) {
		clear(spoilt[:cap(spoilt)])
		for j := i + 1; j < 6; j++ {
			if !slices.Equal(listed(first)[j], listed(want)[j]) {
				t.Fatalf("lists %d and %d of an answer share memory", i, j)
			}
		}
	}
	clear(first.Flows[:cap(first.Flows)])
	clear(first.Paths[:cap(first.Paths)])
	third, _ := paths.Plan(n, 5, l)
	if !samePlan(second, want) || !samePlan(third, want) || !slices.EqualFunc(l, want.Flows, sameFlow) {
		t.Errorf("answers share memory: %v, %v, %v", second, third, l)
	}
	a, _ := paths.Find(n, l[0])
	b, _ := paths.Find(n, l[0])
	clear(a[:cap(a)])
	if !slices.Equal(b, want.Paths[0]) {
		t.Errorf("two answers share memory: %v", b)
	}
}

func TestNilAndEmptyAreTheSame(t *testing.T) {
	for _, list := range [][]int{nil, {}} {
		f := flow(0, 2, list, list)
		if got, err := paths.Find(line, f); err != api.OK || !slices.Equal(got, api.Path{0, 1, 2}) {
			t.Errorf("find: %v %v", got, err)
		}
		got, fault := paths.Plan(line, 1, []api.Flow{f})
		if want := (api.Plan{Version: 1, Flows: []api.Flow{plain(0, 2)}, Paths: []api.Path{{0, 1, 2}}}); fault != (api.Fault{}) || !samePlan(got, want) {
			t.Errorf("plan: %v %v", got, fault)
		}
	}
	for _, l := range [][]api.Flow{nil, {}} {
		for _, links := range [][]api.Link{nil, {}} {
			if got, fault := paths.Plan(net(2, links...), 1, l); fault != (api.Fault{}) || !samePlan(got, api.Plan{Version: 1}) {
				t.Errorf("plan: %v %v", got, fault)
			}
			if got, err := paths.Find(net(2, links...), plain(0, 1)); err != api.ErrPath || len(got) > 0 {
				t.Errorf("find: %v %v", got, err)
			}
		}
	}
}

// copied are plans to be copied: of nets and of none, with lists and without.
func copied() []api.Plan {
	of, _ := paths.Plan(mesh(8, one), 5, []api.Flow{flow(0, 1, []int{2, 3}, []int{5, 6}), flow(1, 0, []int{4, 3, 2}, []int{7}), plain(2, 3)})
	return []api.Plan{
		{},
		{Version: 9},
		{Version: 1, Flows: []api.Flow{}, Paths: []api.Path{}},
		{Version: math.MinInt, Flows: []api.Flow{flow(-1, math.MaxInt, []int{}, []int{9, 9})}},
		{Version: 2, Paths: []api.Path{nil, {}, {-1, 8}}},
		of,
	}
}

func TestCopy(t *testing.T) {
	for _, p := range copied() {
		if got := paths.Copy(p); !samePlan(got, p) {
			t.Errorf("%v, not %v", got, p)
		}
	}
}

// TestCopyIsNewMemory fills what was copied, and the copy: neither is seen in the other one.
func TestCopyIsNewMemory(t *testing.T) {
	fill := func(p api.Plan) {
		for _, f := range p.Flows {
			clear(f.Via[:cap(f.Via)])
			clear(f.Not[:cap(f.Not)])
		}
		for _, path := range p.Paths {
			clear(path[:cap(path)])
		}
		clear(p.Flows[:cap(p.Flows)])
		clear(p.Paths[:cap(p.Paths)])
	}
	for i, p := range copied() {
		got := paths.Copy(p)
		fill(paths.Copy(p))
		if want := copied()[i]; !samePlan(p, want) {
			t.Errorf("the copy is filled, and what was copied is %v, not %v", p, want)
		}
		fill(p)
		if want := copied()[i]; !samePlan(got, want) {
			t.Errorf("what was copied is filled, and the copy is %v, not %v", got, want)
		}
	}
}

// TestWhateverIsGiven: nothing panics, and beside an error there is nothing.
func TestWhateverIsGiven(t *testing.T) {
	odd := []int{math.MinInt, -1, 0, 1, 2, 7, 8, 9, 1 << 32, math.MaxInt}
	for _, a := range odd {
		for _, b := range odd {
			for _, c := range odd {
				for _, n := range []api.Topo{line, mesh(8, one), net(a), net(3, link(a, b, c)), net(a, link(0, 1, 1), link(b, c, a))} {
					for _, f := range []api.Flow{plain(a, b), flow(0, 1, []int{a, b}, []int{c}), flow(a, b, []int{c}, nil), flow(a, b, nil, []int{c})} {
						p, err := paths.Find(n, f)
						if (err == api.OK) != (len(p) > 0) {
							t.Fatalf("%v: %v: %v %v", n, f, p, err)
						}
						plan, fault := paths.Plan(n, c, []api.Flow{plain(0, 1), f})
						if fault.Err != api.OK && !isZero(plan) || fault.Err == api.OK && (plan.Version != c || len(plan.Paths) != 2 || err != api.OK) {
							t.Fatalf("%v: %v: %v %v", n, f, plan, fault)
						}
					}
				}
			}
		}
	}
}
