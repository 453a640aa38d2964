package topo_test

import (
	"math"
	"slices"
	"testing"

	"stampways/api"
	"stampways/topo"
)

func link(a, b, cost int) api.Link { return api.Link{A: a, B: b, Cost: cost} }

func net(switches int, links ...api.Link) api.Topo {
	return api.Topo{Switches: switches, Links: links}
}

// mesh joins each two of so many switches, by costs that are all different.
func mesh(switches int) api.Topo {
	t := api.Topo{Switches: switches}
	for a := range switches {
		for b := range a {
			t.Links = append(t.Links, link(a, b, len(t.Links)+1))
		}
	}
	return t
}

// odd are numbers that are no switches, or hardly ones.
var odd = []int{math.MinInt, math.MinInt + 1, -9, -1, 0, 1, 7, 8, 9, 1 << 32, math.MaxInt - 1, math.MaxInt}

func TestWrong(t *testing.T) {
	full := mesh(api.MaxSwitches)
	more := net(api.MaxSwitches, append(slices.Clone(full.Links), link(0, 1, 1))...)
	for _, c := range []struct {
		name string
		net  api.Topo
		want api.Fault
	}{
		{"no switches", net(0), api.Fault{Err: api.ErrMany}},
		{"fewer than none", net(-1), api.Fault{Err: api.ErrMany}},
		{"least number of all", net(math.MinInt), api.Fault{Err: api.ErrMany}},
		{"one switch", net(1), api.Fault{}},
		{"most switches", net(api.MaxSwitches), api.Fault{}},
		{"a switch too many", net(api.MaxSwitches + 1), api.Fault{Err: api.ErrMany}},
		{"greatest number of all", net(math.MaxInt), api.Fault{Err: api.ErrMany}},
		{"most links", full, api.Fault{}},
		{"a link too many", more, api.Fault{Err: api.ErrMany}},
		{"too many links that are wrong too", net(3, make([]api.Link, api.MaxLinks+1)...), api.Fault{Err: api.ErrMany}},
		{"no switches, and a wrong link", net(0, link(1, 1, 0), link(0, 1, 1)), api.Fault{Err: api.ErrMany}},

		{"A below 0", net(3, link(-1, 0, 1)), api.Fault{Err: api.ErrNone}},
		{"B below 0", net(3, link(0, -1, 1)), api.Fault{Err: api.ErrNone}},
		{"A behind the last", net(3, link(3, 0, 1)), api.Fault{Err: api.ErrNone}},
		{"B behind the last", net(3, link(0, 1, 1), link(0, 3, 1)), api.Fault{Err: api.ErrNone, At: 1}},
		{"last switch", net(3, link(2, 0, 1)), api.Fault{}},
		{"to itself", net(3, link(0, 1, 1), link(1, 2, 1), link(2, 2, 1)), api.Fault{Err: api.ErrFit, At: 2}},
		{"for nothing", net(3, link(0, 1, 0)), api.Fault{Err: api.ErrRange}},
		{"below nothing", net(3, link(0, 1, -5)), api.Fault{Err: api.ErrRange}},
		{"least cost", net(3, link(0, 1, 1)), api.Fault{}},
		{"greatest cost", net(3, link(0, 1, api.MaxCost)), api.Fault{}},
		{"too dear", net(3, link(0, 1, 1), link(1, 2, api.MaxCost+1)), api.Fault{Err: api.ErrRange, At: 1}},
		{"twice", net(3, link(0, 1, 1), link(0, 1, 2)), api.Fault{Err: api.ErrName, At: 1}},
		{"twice, the other way", net(3, link(0, 1, 1), link(1, 2, 1), link(1, 0, 1)), api.Fault{Err: api.ErrName, At: 2}},

		{"none ahead of itself", net(3, link(3, 3, 0)), api.Fault{Err: api.ErrNone}},
		{"itself ahead of cost", net(3, link(1, 1, 0)), api.Fault{Err: api.ErrFit}},
		{"cost ahead of twice", net(3, link(0, 1, 1), link(1, 0, 0)), api.Fault{Err: api.ErrRange, At: 1}},
		{"the first link that is wrong", net(3, link(0, 1, 1), link(0, 1, 1), link(0, 9, 1)), api.Fault{Err: api.ErrName, At: 1}},
	} {
		if got := topo.Wrong(c.net); got != c.want {
			t.Errorf("%s: %v, not %v", c.name, got, c.want)
		}
	}
}

func TestWrongNetsReachNone(t *testing.T) {
	nets := []api.Topo{
		net(0), net(-1), net(9), net(math.MinInt), net(math.MaxInt),
		net(8, make([]api.Link, 29)...),
		net(3, link(0, 1, 1), link(0, 3, 1)),
		net(3, link(0, 1, 1), link(2, 2, 1)),
		net(3, link(0, 1, 1), link(1, 2, 0)),
		net(3, link(0, 1, 1), link(1, 2, 1001)),
		net(3, link(0, 1, 1), link(1, 0, 1)),
	}
	for _, a := range odd {
		for _, b := range odd {
			nets = append(nets, net(3, link(0, 1, 1), link(a, b, 0)), net(a, link(0, 0, b)))
		}
	}
	for _, n := range nets {
		if topo.Wrong(n).Err == api.OK {
			t.Errorf("%v: nothing is wrong", n)
		}
		for _, a := range odd {
			if got := topo.Reaches(n, a); len(got) > 0 {
				t.Errorf("%v: %d reaches %v", n, a, got)
			}
			for _, b := range odd {
				topo.Cost(n, a, b)
				topo.Length(n, api.Path{a, b})
			}
		}
	}
}

func TestCost(t *testing.T) {
	n := net(4, link(0, 1, 1), link(2, 1, 7), link(3, 0, api.MaxCost))
	want := map[[2]int]int{{0, 1}: 1, {1, 0}: 1, {1, 2}: 7, {2, 1}: 7, {0, 3}: api.MaxCost, {3, 0}: api.MaxCost}
	for _, a := range append(odd, 2, 3) {
		for _, b := range append(odd, 2, 3) {
			if got := topo.Cost(n, a, b); got != want[[2]int{a, b}] {
				t.Errorf("from %d to %d: %d, not %d", a, b, got, want[[2]int{a, b}])
			}
		}
	}
	full := mesh(api.MaxSwitches)
	for _, k := range full.Links {
		if topo.Cost(full, k.A, k.B) != k.Cost || topo.Cost(full, k.B, k.A) != k.Cost {
			t.Errorf("%v costs otherwise", k)
		}
	}
}

func TestReaches(t *testing.T) {
	line := net(3, link(2, 1, 1), link(1, 0, 1))
	winding := net(8, link(0, 7, 1), link(7, 3, 1), link(3, 5, 1), link(1, 2, 1), link(6, 5, 1))
	for _, c := range []struct {
		net  api.Topo
		from int
		want []int
	}{
		{line, 0, []int{0, 1, 2}},
		{line, 2, []int{0, 1, 2}},
		{line, 3, nil},
		{line, -1, nil},
		{line, math.MinInt, nil},
		{line, math.MaxInt, nil},
		{net(1), 0, []int{0}},
		{net(1), 1, nil},
		{net(8), 7, []int{7}},
		{net(8), 8, nil},
		{winding, 0, []int{0, 3, 5, 6, 7}},
		{winding, 6, []int{0, 3, 5, 6, 7}},
		{winding, 2, []int{1, 2}},
		{winding, 4, []int{4}},
		{mesh(8), 5, []int{0, 1, 2, 3, 4, 5, 6, 7}},
	} {
		if got := topo.Reaches(c.net, c.from); !slices.Equal(got, c.want) {
			t.Errorf("%v: %d reaches %v, not %v", c.net, c.from, got, c.want)
		}
	}
}

func TestLength(t *testing.T) {
	ring := net(4, link(0, 1, 1), link(2, 1, 20), link(2, 3, 300), link(0, 3, 1000))
	for _, c := range []struct {
		path api.Path
		want int
		ok   bool
	}{
		{nil, 0, false},
		{api.Path{}, 0, false},
		{api.Path{0}, 0, true},
		{api.Path{3}, 0, true},
		{api.Path{4}, 0, false},
		{api.Path{-1}, 0, false},
		{api.Path{0, 1}, 1, true},
		{api.Path{1, 0}, 1, true},
		{api.Path{1, 2, 3, 0}, 1320, true},
		{api.Path{0, 3, 2, 1}, 1320, true},
		{api.Path{0, 1, 2, 3, 0}, 0, false},
		{api.Path{0, 1, 0}, 0, false},
		{api.Path{0, 0}, 0, false},
		{api.Path{0, 2}, 0, false},
		{api.Path{0, 1, 3}, 0, false},
		{api.Path{0, 1, 4}, 0, false},
		{api.Path{0, 1, math.MaxInt}, 0, false},
		{api.Path{math.MinInt, 0}, 0, false},
		{make(api.Path, 100), 0, false},
	} {
		if got, ok := topo.Length(ring, c.path); got != c.want || ok != c.ok {
			t.Errorf("%v: %d %t, not %d %t", c.path, got, ok, c.want, c.ok)
		}
	}
	dear := net(8)
	for s := range 7 {
		dear.Links = append(dear.Links, link(s, s+1, api.MaxCost))
	}
	if got, ok := topo.Length(dear, api.Path{7, 6, 5, 4, 3, 2, 1, 0}); got != 7*api.MaxCost || !ok {
		t.Errorf("the longest path: %d %t", got, ok)
	}
}

// TestAllNetsOfFour holds every net of four switches against matrices, and every path of up to five.
func TestAllNetsOfFour(t *testing.T) {
	all := mesh(4).Links
	for set := range 1 << len(all) {
		n := api.Topo{Switches: 4}
		var cost [4][4]int
		var joined [4][4]bool
		for i, k := range all {
			if set>>i&1 == 1 {
				n.Links = append(n.Links, k)
				cost[k.A][k.B], cost[k.B][k.A] = k.Cost, k.Cost
				joined[k.A][k.B], joined[k.B][k.A] = true, true
			}
		}
		for m := range 4 {
			joined[m][m] = true
		}
		for m := range 4 {
			for a := range 4 {
				for b := range 4 {
					joined[a][b] = joined[a][b] || joined[a][m] && joined[m][b]
				}
			}
		}
		for a := range 4 {
			var want []int
			for b := range 4 {
				if joined[a][b] {
					want = append(want, b)
				}
				if got := topo.Cost(n, a, b); got != cost[a][b] {
					t.Fatalf("%v: cost of %d to %d: %d", n, a, b, got)
				}
			}
			if got := topo.Reaches(n, a); !slices.Equal(got, want) {
				t.Fatalf("%v: %d reaches %v, not %v", n, a, got, want)
			}
		}
		walk(t, n, cost, nil)
	}
}

// walk asks for the length of p and of all that begin with it.
func walk(t *testing.T, n api.Topo, cost [4][4]int, p api.Path) {
	t.Helper()
	want, ok := plainLength(cost, p)
	if got, is := topo.Length(n, p); got != want || is != ok {
		t.Fatalf("%v: %v: %d %t, not %d %t", n, p, got, is, want, ok)
	}
	if len(p) == 5 {
		return
	}
	for s := range 5 {
		walk(t, n, cost, append(slices.Clone(p), s))
	}
}

func plainLength(cost [4][4]int, p api.Path) (int, bool) {
	sum := 0
	for i, s := range p {
		if s < 0 || s > 3 || slices.Contains(p[:i], s) {
			return 0, false
		}
		if i > 0 {
			if cost[p[i-1]][s] == 0 {
				return 0, false
			}
			sum += cost[p[i-1]][s]
		}
	}
	return sum, len(p) > 0
}

// TestOnlyReads: lists that are handed in, and the spare room behind them, are neither changed nor looked at.
func TestOnlyReads(t *testing.T) {
	room := []api.Link{link(2, 1, 3), link(1, 0, 4), link(0, 1, 9), link(7, 7, -1)}
	path := api.Path{0, 1, 2, 2, -1}
	n := net(3, room[:2]...)
	p := path[:3]
	keptRoom, keptPath := slices.Clone(room), slices.Clone(path)
	if f := topo.Wrong(n); f != (api.Fault{}) {
		t.Errorf("wrong: %v", f)
	}
	if c := topo.Cost(n, 0, 1); c != 4 {
		t.Errorf("cost: %d", c)
	}
	if got, ok := topo.Length(n, p); got != 7 || !ok {
		t.Errorf("length: %d %t", got, ok)
	}
	first := topo.Reaches(n, 1)
	if !slices.Equal(first, []int{0, 1, 2}) {
		t.Errorf("reaches: %v", first)
	}
	second := topo.Reaches(n, 1)
	clear(first[:cap(first)])
	if !slices.Equal(second, []int{0, 1, 2}) || !slices.Equal(topo.Reaches(n, 1), second) {
		t.Error("two answers share memory")
	}
	if !slices.Equal(room, keptRoom) || !slices.Equal(path, keptPath) {
		t.Error("what was handed in is changed")
	}
	room[0] = link(0, 2, 8)
	if topo.Cost(n, 1, 2) != 0 || topo.Cost(n, 0, 2) != 8 {
		t.Error("something of the net was kept")
	}
}

func TestNilAndEmptyAreTheSame(t *testing.T) {
	for _, links := range [][]api.Link{nil, {}} {
		n := api.Topo{Switches: 2, Links: links}
		if f := topo.Wrong(n); f != (api.Fault{}) {
			t.Errorf("wrong: %v", f)
		}
		if c := topo.Cost(n, 0, 1); c != 0 {
			t.Errorf("cost: %d", c)
		}
		if got := topo.Reaches(n, 1); !slices.Equal(got, []int{1}) {
			t.Errorf("reaches: %v", got)
		}
		for _, p := range []api.Path{nil, {}} {
			if got, ok := topo.Length(n, p); got != 0 || ok {
				t.Errorf("length: %d %t", got, ok)
			}
		}
	}
}
