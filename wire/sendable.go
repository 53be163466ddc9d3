// Package wire turns messages into bytes and back.
package wire

import "pact/api"

// limits holds the greatest value, or how many bytes or entries at most, of each field; a field that a kind does not use has the limit 0.
type limits struct {
	group, ballot, slot, value, list int
}

// limitsOf tells the limits of a kind of message, and whether there is such a kind.
func limitsOf(kind int) (limits, bool) {
	switch kind {
	case api.Prepare, api.Reject:
		return limits{group: api.MaxGroup, ballot: api.MaxBallot}, true
	case api.Promise:
		return limits{group: api.MaxGroup, ballot: api.MaxBallot, list: api.MaxSlot + 1}, true
	case api.Accept, api.Accepted:
		return limits{group: api.MaxGroup, ballot: api.MaxBallot, slot: api.MaxSlot, value: api.MaxValue}, true
	case api.Chosen:
		return limits{group: api.MaxGroup, slot: api.MaxSlot, value: api.MaxValue}, true
	case api.Beat:
		return limits{group: api.MaxGroup, ballot: api.MaxBallot, slot: api.MaxSlot}, true
	case api.Request, api.Reply:
		return limits{slot: api.MaxSeq, value: api.MaxValue}, true
	}
	return limits{}, false
}

// Sendable tells whether a message can be sent.
func Sendable(m api.Message) bool {
	most, known := limitsOf(m.Kind)
	return known &&
		upTo(m.From, api.MaxNode) &&
		upTo(m.To, api.MaxNode) &&
		groupFits(m.Group, most.group) &&
		upTo(m.Ballot, most.ballot) &&
		upTo(m.Slot, most.slot) &&
		len(m.Value) <= most.value &&
		len(m.List) <= most.list &&
		entriesFit(m.List)
}

func upTo(n, most int) bool { return 0 <= n && n <= most }

// groupFits: a kind that uses a group must name one.
func groupFits(group string, most int) bool {
	return min(1, most) <= len(group) && len(group) <= most
}

func entriesFit(list []api.Entry) bool {
	last := -1
	for _, e := range list {
		if e.Slot <= last || e.Slot > api.MaxSlot || !upTo(e.Ballot, api.MaxBallot) || len(e.Value) > api.MaxValue {
			return false
		}
		last = e.Slot
	}
	return true
}
