package paths

import (
	"slices"

	"stampways/api"
	"stampways/topo"
)

// costs are those of the links between each two switches, 0 where there is none:
// a search asks for them far too often to have the net read each time.
type costs [api.MaxSwitches][api.MaxSwitches]int

func costsOf(t api.Topo) costs {
	var c costs
	for a := range t.Switches {
		for b := range a {
			cost := topo.Cost(t, a, b)
			c[a][b], c[b][a] = cost, cost
		}
	}
	return c
}

// search goes all ways of a flow. A net is small enough for that, and no shorter rule would do:
// a cheapest path by way of some switches is not made of cheapest pieces, as no switch stands in it twice.
type search struct {
	costs  costs
	flow   api.Flow
	closed [api.MaxSwitches]bool // where the way can't go: it was there, or is not to be
	way    api.Path
	best   api.Path // nil: none yet
	least  int      // what best costs
}

// cheapest finds the path of a flow with which nothing is wrong.
func cheapest(c costs, f api.Flow) (api.Path, api.Errno) {
	s := search{costs: c, flow: f}
	for _, x := range f.Not {
		s.closed[x] = true
	}
	s.enter(f.From, 0, 0)
	if s.best == nil {
		return nil, api.ErrPath
	}
	return s.best, api.OK
}

// enter goes to a switch, where the way has cost so much and has met so many of Via, and on from there.
func (s *search) enter(at, cost, met int) {
	if s.best != nil && cost >= s.least {
		return
	}
	s.closed[at] = true
	s.way = append(s.way, at)
	if met < len(s.flow.Via) && s.flow.Via[met] == at {
		met++
	}
	if at != s.flow.To {
		s.goOn(at, cost, met)
	} else if met == len(s.flow.Via) {
		s.best, s.least = slices.Clone(s.way), cost
	}
	s.way = s.way[:len(s.way)-1]
	s.closed[at] = false
}

// goOn tries the next switches rising: so of paths that cost the same the least one is met first, and stays.
func (s *search) goOn(at, cost, met int) {
	for next, more := range s.costs[at] {
		if more > 0 && !s.closed[next] {
			s.enter(next, cost+more, met)
		}
	}
}
