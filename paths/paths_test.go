package paths_test

import (
	"math"
	"slices"
	"testing"

	"stampways/api"
	"stampways/flows"
	"stampways/paths"
	"stampways/topo"
)

func link(a, b, cost int) api.Link { return api.Link{A: a, B: b, Cost: cost} }

func net(switches int, links ...api.Link) api.Topo {
	return api.Topo{Switches: switches, Links: links}
}

func flow(from, to int, via, not []int) api.Flow {
	return api.Flow{From: from, To: to, Via: via, Not: not}
}

func plain(from, to int) api.Flow { return flow(from, to, nil, nil) }

// mesh joins each two of so many switches, at the costs that are told.
func mesh(switches int, cost func(a, b int) int) api.Topo {
	t := api.Topo{Switches: switches}
	for a := range switches {
		for b := range a {
			t.Links = append(t.Links, link(a, b, cost(a, b)))
		}
	}
	return t
}

func one(a, b int) int { return 1 }

var (
	line = net(3, link(2, 1, 1), link(1, 0, 1))
	ring = net(4, link(0, 1, 1), link(1, 2, 1), link(2, 3, 1), link(3, 0, 5))
	// ways of 0 to 5 that cost the same: 0 1 2 5, 0 1 5, 0 3 5, 0 4 1 2 5, 0 4 1 5
	ties = net(6, link(5, 3, 3), link(3, 0, 3), link(5, 2, 2), link(2, 1, 2), link(1, 0, 2), link(0, 4, 1), link(4, 1, 1), link(1, 5, 4))
	// a stalk: who goes by way of 3 first can't go back over 1
	stalk = net(5, link(0, 1, 1), link(1, 3, 1), link(1, 2, 1), link(3, 4, 10), link(4, 2, 10))
	split = net(5, link(0, 1, 1), link(2, 3, 1))
)

func TestFind(t *testing.T) {
	for _, c := range []struct {
		what string
		net  api.Topo
		flow api.Flow
		want api.Path
	}{
		{"a line", line, plain(0, 2), api.Path{0, 1, 2}},
		{"a line, back", line, plain(2, 0), api.Path{2, 1, 0}},
		{"a link", line, plain(1, 0), api.Path{1, 0}},
		{"more switches, but cheaper", ring, plain(0, 3), api.Path{0, 1, 2, 3}},
		{"not over one: the other way round", ring, flow(0, 3, nil, []int{1}), api.Path{0, 3}},
		{"not over one: the other way round, longer", ring, flow(0, 2, nil, []int{1}), api.Path{0, 3, 2}},
		{"not over one that is not on the way", ring, flow(0, 2, nil, []int{3}), api.Path{0, 1, 2}},
		{"by way of one", ring, flow(0, 2, []int{3}, nil), api.Path{0, 3, 2}},
		{"by way of one that is on the way", ring, flow(0, 2, []int{1}, nil), api.Path{0, 1, 2}},
		{"by way of one, not over another", ring, flow(0, 2, []int{3}, []int{1}), api.Path{0, 3, 2}},
		{"by way of two", ring, flow(0, 1, []int{3, 2}, nil), api.Path{0, 3, 2, 1}},

		{"cost the same: the least", ties, plain(0, 5), api.Path{0, 1, 2, 5}},
		{"cost the same: the least, back", ties, plain(5, 0), api.Path{5, 1, 0}},
		{"cost the same: the least that serves", ties, flow(0, 5, nil, []int{1}), api.Path{0, 3, 5}},
		{"cost the same: the least by way of one", ties, flow(0, 5, []int{4}, nil), api.Path{0, 4, 1, 2, 5}},
		{"cost the same: fewest switches are not asked for", ties, flow(0, 5, nil, []int{3}), api.Path{0, 1, 2, 5}},

		{"not made of cheapest pieces", stalk, flow(0, 2, []int{3}, nil), api.Path{0, 1, 3, 4, 2}},
		{"no further than to", stalk, plain(0, 3), api.Path{0, 1, 3}},
		{"all switches", mesh(8, one), flow(7, 0, []int{6, 1, 5, 2, 4, 3}, nil), api.Path{7, 6, 1, 5, 2, 4, 3, 0}},
		{"the only two", mesh(8, one), flow(7, 0, nil, []int{6, 1, 5, 2, 4, 3}), api.Path{7, 0}},
		{"in this order, others between", net(6, link(0, 1, 1), link(1, 2, 1), link(2, 3, 1), link(3, 4, 1), link(4, 5, 1)),
			flow(0, 5, []int{1, 4}, nil), api.Path{0, 1, 2, 3, 4, 5}},
		{"order: the cheaper way has them the other way round", net(4, link(0, 1, 1), link(1, 2, 1), link(2, 3, 1), link(0, 2, 9), link(1, 3, 9)),
			flow(0, 3, []int{2, 1}, nil), api.Path{0, 2, 1, 3}},
		{"dear", net(2, link(1, 0, api.MaxCost)), plain(0, 1), api.Path{0, 1}},
		{"in a part of a net", split, plain(3, 2), api.Path{3, 2}},
	} {
		got, err := paths.Find(c.net, c.flow)
		if err != api.OK || !slices.Equal(got, c.want) {
			t.Errorf("%s: %v %v, not %v", c.what, got, err, c.want)
		}
	}
}

// TestFindTheDearestPath: there is no sum at which a path is too dear.
func TestFindTheDearestPath(t *testing.T) {
	long := net(8)
	want := api.Path{0}
	for s := range 7 {
		long.Links = append(long.Links, link(s, s+1, api.MaxCost))
		want = append(want, s+1)
	}
	if got, err := paths.Find(long, plain(0, 7)); err != api.OK || !slices.Equal(got, want) {
		t.Errorf("%v %v", got, err)
	}
}

// wrongNets are nets with a fault, and the fault.
func wrongNets() map[api.Fault]api.Topo {
	return map[api.Fault]api.Topo{
		{Err: api.ErrMany}:         net(0),
		{Err: api.ErrNone, At: 1}:  net(3, link(0, 1, 1), link(0, 3, 1)),
		{Err: api.ErrFit, At: 2}:   net(3, link(0, 1, 1), link(1, 2, 1), link(2, 2, 1)),
		{Err: api.ErrRange, At: 1}: net(3, link(0, 1, 1), link(1, 2, 1001)),
		{Err: api.ErrName, At: 1}:  net(3, link(0, 1, 1), link(1, 0, 1)),
	}
}

func TestFindErrors(t *testing.T) {
	for fault, n := range wrongNets() {
		for _, f := range []api.Flow{plain(0, 1), plain(0, 0), plain(-1, 9), plain(0, 2)} {
			if got, err := paths.Find(n, f); err != fault.Err || len(got) > 0 {
				t.Errorf("%v: %v: %v %v, not %v", n, f, got, err, fault.Err)
			}
		}
	}
	for _, c := range []struct {
		what string
		net  api.Topo
		flow api.Flow
		want api.Errno
	}{
		{"a switch too many", net(9), plain(0, 1), api.ErrMany},
		{"a link too many", net(8, make([]api.Link, 29)...), plain(0, 1), api.ErrMany},
		{"from is none", line, plain(3, 0), api.ErrNone},
		{"to is none", line, plain(0, -1), api.ErrNone},
		{"far", line, plain(math.MinInt, math.MaxInt), api.ErrNone},
		{"to itself", line, plain(1, 1), api.ErrFit},
		{"one switch", net(1), plain(0, 0), api.ErrFit},
		{"via none", line, flow(0, 1, []int{3}, nil), api.ErrNone},
		{"via from", line, flow(0, 1, []int{0}, nil), api.ErrFit},
		{"via twice", line, flow(0, 1, []int{2, 2}, nil), api.ErrName},
		{"not none", line, flow(0, 1, nil, []int{8}), api.ErrNone},
		{"not to", line, flow(0, 1, nil, []int{1}), api.ErrFit},
		{"not twice", line, flow(0, 1, nil, []int{2, 2}), api.ErrName},
		{"in both", line, flow(0, 2, []int{1}, []int{1}), api.ErrFit},
		{"wrong, and no path", split, flow(0, 2, []int{2}, nil), api.ErrFit},

		{"no links", net(8), plain(0, 7), api.ErrPath},
		{"apart", split, plain(0, 2), api.ErrPath},
		{"to one that is joined to none", split, plain(0, 4), api.ErrPath},
		{"from one that is joined to none", split, plain(4, 0), api.ErrPath},
		{"by way of one that is apart", split, flow(0, 1, []int{2}, nil), api.ErrPath},
		{"by way of one behind to", line, flow(0, 1, []int{2}, nil), api.ErrPath},
		{"by way of one ahead of from", line, flow(1, 2, []int{0}, nil), api.ErrPath},
		{"in no such order", ring, flow(0, 3, []int{2, 1}, nil), api.ErrPath},
		{"not over the only way", line, flow(0, 2, nil, []int{1}), api.ErrPath},
		{"not over both ways", ring, flow(0, 2, nil, []int{3, 1}), api.ErrPath},
		{"a stalk twice", stalk, flow(4, 0, []int{2, 3}, nil), api.ErrPath},
	} {
		got, err := paths.Find(c.net, c.flow)
		if err != c.want || len(got) > 0 {
			t.Errorf("%s: %v %v, not %v", c.what, got, err, c.want)
		}
		got2, fault := paths.Plan(c.net, 1, []api.Flow{c.flow})
		if fault != (api.Fault{Err: c.want}) || !isZero(got2) {
			t.Errorf("%s: a plan of it alone: %v %v, not %v", c.what, got2, fault, c.want)
		}
	}
}

func isZero(p api.Plan) bool { return p.Version == 0 && len(p.Flows) == 0 && len(p.Paths) == 0 }

// priced is a path of a net, and what it costs.
type priced struct {
	path api.Path
	cost int
}

// allPaths are all paths of a net, as Length tells them.
func allPaths(n api.Topo) []priced {
	var out []priced
	var grow func(p api.Path)
	grow = func(p api.Path) {
		if cost, ok := topo.Length(n, p); ok {
			out = append(out, priced{p, cost})
		} else if len(p) > 0 {
			return
		}
		for s := range n.Switches {
			grow(append(slices.Clone(p), s))
		}
	}
	grow(nil)
	return out
}

// serves says C1's first sentence over again, of a path of the net.
func serves(p api.Path, f api.Flow) bool {
	if p[0] != f.From || p[len(p)-1] != f.To {
		return false
	}
	for _, s := range f.Not {
		if slices.Contains(p, s) {
			return false
		}
	}
	last := -1
	for _, s := range f.Via {
		at := slices.Index(p, s)
		if at <= last {
			return false
		}
		last = at
	}
	return true
}

// plainFind takes the best of all paths of a net.
func plainFind(all []priced, f api.Flow, n int) (api.Path, api.Errno) {
	if fault := flows.Wrong([]api.Flow{f}, n); fault.Err != api.OK {
		return nil, fault.Err
	}
	var best priced
	for _, p := range all {
		if !serves(p.path, f) {
			continue
		}
		if best.path == nil || p.cost < best.cost || p.cost == best.cost && slices.Compare(p.path, best.path) < 0 {
			best = p
		}
	}
	if best.path == nil {
		return nil, api.ErrPath
	}
	return best.path, api.OK
}

func holdAgainst(t *testing.T, n api.Topo, all []priced, f api.Flow) {
	t.Helper()
	want, wantErr := plainFind(all, f, n.Switches)
	got, err := paths.Find(n, f)
	if err != wantErr || !slices.Equal(got, want) {
		t.Fatalf("%v: %v: %v %v, not %v %v", n, f, got, err, want, wantErr)
	}
}

// lists are all lists of at most so many numbers below n.
func lists(most, n int) [][]int {
	out := [][]int{nil}
	for at := 0; at < len(out); at++ {
		for s := 0; s < n && len(out[at]) < most; s++ {
			out = append(out, append(slices.Clone(out[at]), s))
		}
	}
	return out
}

// TestFindInAllNetsOfFour goes through all nets of four switches whose links cost 1 to 3, if they are there, and all small flows.
func TestFindInAllNetsOfFour(t *testing.T) {
	all := lists(2, 4)
	for set := range 1 << 12 {
		n := api.Topo{Switches: 4}
		for i, k := range mesh(4, one).Links {
			if k.Cost = set >> (2 * i) & 3; k.Cost > 0 {
				n.Links = append(n.Links, k)
			}
		}
		ways := allPaths(n)
		for from := range 4 {
			to := (from + 1 + set%3) % 4
			for _, via := range all {
				holdAgainst(t, n, ways, flow(from, to, via, nil))
				holdAgainst(t, n, ways, flow(from, to, nil, via))
				holdAgainst(t, n, ways, flow(from, to, via, []int{(to + 1) % 4}))
			}
		}
	}
}

// drawn are numbers below n, one behind the other, always the same ones.
func drawn(seed uint64) func(n int) int {
	return func(n int) int {
		seed = seed*6364136223846793005 + 1442695040888963407
		return int(seed>>33) % n
	}
}

// order puts the numbers below n into an order.
func order(draw func(n int) int, n int) []int {
	var out []int
	for i := range n {
		out = slices.Insert(out, draw(i+1), i)
	}
	return out
}

// TestFindInGreatNets draws nets of up to eight switches, with few costs, so that many paths cost the same.
func TestFindInGreatNets(t *testing.T) {
	draw := drawn(3)
	for range 20 {
		n := api.Topo{Switches: 5 + draw(4)}
		there, costs := 3+draw(5), 1+draw(5)
		for _, k := range mesh(n.Switches, one).Links {
			k.Cost += draw(costs)
			if draw(8) < there {
				n.Links = append(n.Links, k)
			}
		}
		ways := allPaths(n)
		for range 20 {
			s := order(draw, n.Switches)
			via := 2 + draw(4)
			not := min(via+draw(3), len(s))
			holdAgainst(t, n, ways, flow(s[0], s[1], s[2:via], s[via:not]))
		}
	}
}
