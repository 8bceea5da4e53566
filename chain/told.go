package chain

import "limelight/api"

// most is what one change can tell: two events of who loses the focus, and two of who gets it. Both chains end with the viewport, so that of each no more than one node is left.
const most = 4

// told is the events of one change, in a place that is large enough for all of them.
type told struct {
	events [most]api.Event
	count  int
}

// tell adds both events of a node: the first one stays at it, the other one bubbles.
func (l *told) tell(target int, other int, at int, through int) {
	e := api.Event{Type: at, Target: target, Related: related(other), Composed: true}
	l.events[l.count] = e
	e.Type, e.Bubbles = through, true
	l.events[l.count+1] = e
	l.count += 2
}

// list is the part of the array that is used; who has it has the array alone.
func (l *told) list() []api.Event {
	return l.events[:l.count:l.count]
}

// related keeps the viewport out: to listeners it is nobody.
func related(n int) int {
	if n == viewport {
		return none
	}
	return n
}
