package engine

import (
	"sync"

	"outcry/api"
)

const (
	alone       = 1 // so many workers: nobody is helped
	mostWorkers = 16
)

// tell tells events as they are.
func (e *Engine) tell(l ...api.Event) { e.told = append(e.told, l...) }

// tellOrder tells of an order, by the name that it has now.
func (e *Engine) tellOrder(x api.Event) {
	if known, lives := e.living[x.O.ID]; lives {
		x.Name, x.O.Name = known.name, known.name
	}
	e.tell(x)
}

// eventOf is an event of an order, as books have them.
func eventOf(kind int, o api.Order) api.Event {
	return api.Event{Kind: kind, Symbol: o.Symbol, Owner: o.Owner, Name: o.Name, O: o, Side: o.Side}
}

// refusal is what is told of a command that is not done.
func refusal(c api.Command, err api.Errno) api.Event {
	x := api.Event{Kind: api.EvRejected, Symbol: c.O.Symbol, Owner: c.Owner, Name: c.Name, O: c.O, Err: err}
	if c.Kind == api.DoNew {
		x.Name = c.O.Name
	}
	return x
}

// levels gives what has changed in the books, by the places of the instruments, whoever of the workers made it ready.
func (e *Engine) levels(workers int) []api.Event {
	ready := make([][]api.Event, len(e.instruments))
	if workers <= alone || workers > mostWorkers {
		e.makeReady(ready, 0, 1)
	} else {
		e.shareOut(ready, min(workers, len(ready)))
	}
	var l []api.Event
	for _, levels := range ready {
		l = append(l, levels...)
	}
	return l
}

// shareOut lets so many workers make levels ready, each those of instruments of its own.
func (e *Engine) shareOut(ready [][]api.Event, workers int) {
	var all sync.WaitGroup
	for worker := range workers {
		all.Add(1)
		go func() {
			defer all.Done()
			e.makeReady(ready, worker, workers)
		}()
	}
	all.Wait()
}

// makeReady finds what has changed in the books at a place and at every so many-th behind it.
func (e *Engine) makeReady(ready [][]api.Event, from, step int) {
	for place := from; place < len(ready); place += step {
		ready[place] = e.instruments[place].book.Changed()
	}
}
