package control

import (
	"slices"

	"stampways/api"
	"stampways/rules"
)

// orders is a step of a change: which order it has for a switch, still without a number, and whether it has one.
// It is asked once for each switch: the lists of its orders are not made anew.
type orders func(s int) (api.Order, bool)

// adding tells a plan's rules where it has some.
func adding(plan api.Plan, switches int) orders {
	all := rules.Of(plan, switches)
	return func(s int) (api.Order, bool) {
		return api.Order{Kind: api.OrderAdd, Version: plan.Version, Rules: all[s]}, len(all[s]) > 0
	}
}

// stamping tells the next plan's flows where they begin.
// Where flows of the elder one began, and none begins now, there must be no stamp any more: an order without flows is told there.
func stamping(now, next api.Plan) orders {
	return func(s int) (api.Order, bool) {
		beginsHere := func(f api.Flow) bool { return f.From == s }
		order := api.Order{Kind: api.OrderStamp, Version: next.Version}
		for number, f := range next.Flows {
			if beginsHere(f) {
				order.Flows = append(order.Flows, number)
			}
		}
		return order, len(order.Flows) > 0 || slices.ContainsFunc(now.Flows, beginsHere)
	}
}

// dropping drops a plan's rules where it has some.
func dropping(plan api.Plan, switches int) orders {
	all := rules.Of(plan, switches)
	return func(s int) (api.Order, bool) {
		return api.Order{Kind: api.OrderDrop, Version: plan.Version}, len(all[s]) > 0
	}
}
