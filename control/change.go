package control

import (
	"slices"

	"stampways/api"
	"stampways/paths"
)

// change is a control on its way from stage to stage in a net with which nothing is wrong, and what was told on the way.
type change struct {
	control  api.Control
	switches int
	told     []api.To
}

// changeOf shares no memory with the control that was handed in.
func changeOf(c api.Control, t api.Topo) *change {
	c.Now = paths.Copy(c.Now)
	c.Next = paths.Copy(c.Next)
	c.Waits = slices.Clone(c.Waits)
	return &change{control: c, switches: t.Switches}
}

// tell tells a step's orders, and waits for each.
func (ch *change) tell(step orders) {
	for s := range ch.switches {
		order, there := step(s)
		if !there {
			continue
		}
		ch.control.Number++
		order.Number = ch.control.Number
		ch.control.Waits = append(ch.control.Waits, order.Number)
		ch.told = append(ch.told, api.To{Switch: s, Order: order})
	}
}

// goOn goes through stages for as long as nothing is waited for: one for which there are no orders is over at once.
func (ch *change) goOn() (api.Control, []api.To, api.Errno) {
	for len(ch.control.Waits) == 0 && ch.nextStage() {
	}
	return ch.control, ch.told, api.OK
}

// nextStage tells whether there is one: Idle and Calm are left by Ask and Drop alone.
func (ch *change) nextStage() bool {
	c := &ch.control
	switch c.Stage {
	case api.Adding:
		c.Stage = api.Stamping
		ch.tell(stamping(c.Now, c.Next))
	case api.Stamping:
		c.Stage = api.Calm
	case api.Dropping:
		c.Stage = api.Idle
		c.Now, c.Next = c.Next, api.Plan{}
	default:
		return false
	}
	return true
}
