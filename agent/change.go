package agent

import (
	"slices"

	"stampways/api"
	"stampways/rules"
)

// change makes a new switch of one with which nothing is wrong; they share no memory.
type change func(s api.Switch) (api.Switch, api.Errno)

// changeBy tells what an order with which nothing is wrong does, whatever switch it comes to.
func changeBy(o api.Order) change {
	switch o.Kind {
	case api.OrderAdd:
		return toRules(func(l []api.Rule) ([]api.Rule, api.Errno) { return rules.Add(l, o.Rules) })
	case api.OrderDrop:
		return toRules(func(l []api.Rule) ([]api.Rule, api.Errno) { return rules.Drop(l, o.Version), api.OK })
	}
	// Nothing is wrong with its kind: only OrderStamp is left.
	return func(s api.Switch) (api.Switch, api.Errno) {
		return api.Switch{Rules: slices.Clone(s.Rules), Stamps: stampsOf(o.Flows, o.Version)}, api.OK
	}
}

// toRules is the change by which a switch has other rules, and its stamps stay.
func toRules(turn func(l []api.Rule) ([]api.Rule, api.Errno)) change {
	return func(s api.Switch) (api.Switch, api.Errno) {
		l, err := turn(s.Rules)
		if err != api.OK {
			return api.Switch{}, err
		}
		return api.Switch{Rules: l, Stamps: slices.Clone(s.Stamps)}, api.OK
	}
}

// stampsOf rise, as the flows of an order do.
func stampsOf(flows []int, version int) []api.Stamp {
	var out []api.Stamp
	for _, f := range flows {
		out = append(out, api.Stamp{Flow: f, Version: version})
	}
	return out
}
