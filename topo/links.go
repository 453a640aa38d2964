package topo

import "stampways/api"

// ends are the two switches of a link, the lesser one first: a link goes either way, and so has one key.
type ends struct{ low, high int }

func joining(a, b int) ends {
	return ends{min(a, b), max(a, b)}
}

func isSwitch(t api.Topo, s int) bool {
	return 0 <= s && s < t.Switches
}

// read makes the costs of the links that there are, by their ends; of a wrong net there are none.
// Costs are above 0, so that 0 can stand for no link.
func read(t api.Topo) (map[ends]int, api.Fault) {
	if t.Switches < 1 || t.Switches > api.MaxSwitches || len(t.Links) > api.MaxLinks {
		return nil, api.Fault{Err: api.ErrMany}
	}
	links := make(map[ends]int)
	for i, k := range t.Links {
		err := wrongLink(t, k)
		if err == api.OK && links[joining(k.A, k.B)] > 0 {
			err = api.ErrName
		}
		if err != api.OK {
			return nil, api.Fault{Err: err, At: i}
		}
		links[joining(k.A, k.B)] = k.Cost
	}
	return links, api.Fault{}
}

// wrongLink tells what is wrong with a link by itself, whatever links stand ahead of it.
func wrongLink(t api.Topo, k api.Link) api.Errno {
	switch {
	case !isSwitch(t, k.A) || !isSwitch(t, k.B):
		return api.ErrNone
	case k.A == k.B:
		return api.ErrFit
	case k.Cost < 1 || k.Cost > api.MaxCost:
		return api.ErrRange
	}
	return api.OK
}
