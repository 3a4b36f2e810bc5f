package engine

import (
	"outcry/api"
	"outcry/clock"
)

const (
	dayMs  = 86400000
	mostMs = 31 * dayMs // beyond that, time does not pass turn by turn
)

// pass lets time pass (E9).
func (e *Engine) pass(to int64) {
	from := e.now
	if !e.begun || to-e.now > mostMs {
		e.closeAll()
		from = dayOf(to) - 1
	}
	for at := e.nextTurn(from); at <= to; at = e.nextTurn(at) {
		for _, i := range e.instruments {
			e.turn(i, at)
		}
	}
	e.now, e.begun = to, true
}

// closeAll closes what is not closed, as of now.
func (e *Engine) closeAll() {
	for _, i := range e.instruments {
		if i.phase != api.Closed {
			i.held = false
			e.enter(i, api.Closed, e.now)
		}
	}
}

// nextTurn tells when, behind a time, a day begins or the phase of an instrument may turn.
func (e *Engine) nextTurn(from int64) int64 {
	next := dayOf(from + dayMs) // from may be -1: dayOf is not asked of that
	for _, i := range e.instruments {
		if _, at := i.listing.Phase(from); at != 0 {
			next = min(next, at)
		}
	}
	return next
}

// dayOf tells when the day of a time began; days are counted from time 0 on, and all are as long.
func dayOf(at int64) int64 { return at / dayMs * dayMs }

// turn brings an instrument where its listing is at a time; what is held stays so up to the end of its day.
func (e *Engine) turn(i *instrument, at int64) {
	phase, _ := i.listing.Phase(at)
	if i.held && phase != api.Closed || phase == i.phase {
		return
	}
	i.held = false
	e.enter(i, phase, at)
}

// enter brings an instrument into a phase.
func (e *Engine) enter(i *instrument, phase int, at int64) {
	switch phase {
	case api.Trading:
		e.open(i)
	case api.Closed:
		e.shut(i, at)
	default:
		e.setPhase(i, phase)
	}
}

// open begins the trade of a day, or what is left of it behind a halt.
func (e *Engine) open(i *instrument) {
	e.setPhase(i, api.Opening)
	e.auction(i)
	e.expire(i, func(o api.Order) bool { return o.Life == api.AtOpen })
	e.setPhase(i, api.Trading)
	e.wake(i)
}

// shut ends the trade of a day.
func (e *Engine) shut(i *instrument, at int64) {
	if i.phase == api.Closing {
		e.auction(i)
	}
	e.setPhase(i, api.Closed)
	if last := i.book.Last(); last != 0 {
		i.reference = last
	}
	// At the beginning of a day it is the day ahead that has ended.
	date, _ := clock.DateOf(max(at-1, 0))
	e.expire(i, func(o api.Order) bool {
		switch o.Life {
		case api.Day, api.PostOnly, api.AtOpen:
			return true
		case api.GTD:
			return o.Until <= date
		}
		return false
	})
}

// setPhase says in which phase an instrument is now.
func (e *Engine) setPhase(i *instrument, phase int) {
	i.phase = phase
	e.tell(api.Event{Kind: api.EvPhase, Symbol: i.symbol, Phase: phase})
}

// expire takes out the orders of an instrument that are over, by their numbers.
func (e *Engine) expire(i *instrument, isOver func(api.Order) bool) {
	for _, o := range i.orders() {
		if !isOver(o) {
			continue
		}
		if isStop(o) {
			i.stops.Cancel(o.ID)
		} else {
			i.book.Cancel(o.ID)
		}
		e.tellOrder(eventOf(api.EvExpired, o))
		e.end(o.ID)
	}
}
