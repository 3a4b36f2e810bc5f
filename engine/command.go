package engine

import (
	"outcry/api"
	"outcry/clock"
	"outcry/msg"
)

// do does a command, the levels of which so many workers make ready (E2).
func (e *Engine) do(c api.Command, workers int) []api.Event {
	if c.Kind < api.DoNew || c.Kind > api.DoLimits || c.Time < 0 || c.Time > api.MaxTime {
		return []api.Event{refusal(c, api.ErrArg)}
	}
	e.pass(max(c.Time, e.now))
	if err := e.perform(c); err != api.OK {
		e.tell(refusal(c, err))
	}
	e.tell(e.levels(workers)...)
	told := e.told
	e.told = nil
	return told
}

// perform does what a command asks for at the time that is now; gives why it is refused.
func (e *Engine) perform(c api.Command) api.Errno {
	switch c.Kind {
	case api.DoNew:
		return e.add(c)
	case api.DoCancel:
		return e.cancel(c)
	case api.DoReplace:
		return e.replace(c)
	case api.DoMass:
		return e.cancelMany(c)
	case api.DoHalt:
		return e.halt(c.O.Symbol)
	case api.DoResume:
		return e.resume(c.O.Symbol)
	case api.DoKill:
		return e.kill(c.Account.Name, c.O.Side == 0)
	case api.DoLimits:
		return e.guard.Set(c.Account)
	}
	return api.OK
}

// add lets an order come (E3).
func (e *Engine) add(c api.Command) api.Errno {
	o := c.O
	o.ID, o.Owner, o.Done = e.number+1, c.Owner, 0
	if err := e.refusesOrder(o); err != api.OK {
		return err
	}
	i := e.find(o.Symbol)
	if isStop(o) {
		return e.addStop(i, o)
	}
	told := i.take(o)
	if told[0].Kind != api.EvRejected {
		e.accept(i, o)
	}
	e.follow(i, told)
	return api.OK
}

// addStop lets an order wait for a price; the last one may be it already.
func (e *Engine) addStop(i *instrument, o api.Order) api.Errno {
	if err := i.stops.Add(o); err != api.OK {
		return err
	}
	e.accept(i, o)
	e.tellOrder(eventOf(api.EvAccepted, o))
	e.guard.Open(o, i.mark())
	e.wake(i)
	return api.OK
}

// refusesOrder tells why an order may not come.
func (e *Engine) refusesOrder(o api.Order) api.Errno {
	if o.Owner < 1 || !msg.IsID(o.Name) {
		return api.ErrArg
	}
	i := e.find(o.Symbol)
	if i == nil {
		return api.ErrSymbol
	}
	if _, _, err := e.guard.Look(o.Account, o.Symbol); err != api.OK {
		return err
	}
	if err := e.refusesName(o.Owner, o.Name); err != api.OK {
		return err
	}
	if err := e.refusesListed(i, o); err != api.OK {
		return err
	}
	return e.guard.Check(o, i.mark(), e.now)
}

// refusesName tells why no order may get a name.
func (e *Engine) refusesName(owner int, name string) api.Errno {
	if _, used := e.used[pair{owner, name}]; used {
		return api.ErrKnown
	}
	if len(e.used) >= api.MaxNames {
		return api.ErrMany
	}
	return api.OK
}

// refusesListed tells why an order does not suit its instrument now.
func (e *Engine) refusesListed(i *instrument, o api.Order) api.Errno {
	date, _ := clock.DateOf(e.now)
	return i.listing.Check(o, i.phase, i.reference, date)
}

// accept gives an order its number, for good, and lets it live.
func (e *Engine) accept(i *instrument, o api.Order) {
	e.number = o.ID
	e.name(i, o, o.Name)
}

// name calls an order by a name from now on, which is used then.
func (e *Engine) name(i *instrument, o api.Order, name string) {
	e.living[o.ID] = living{name: name, at: i}
	e.used[pair{o.Owner, name}] = o.ID
}

// cancel takes an order out (E4).
func (e *Engine) cancel(c api.Command) api.Errno {
	o, i := e.findOrder(c.Owner, c.Name)
	if i == nil {
		return api.ErrNone
	}
	e.remove(i, o)
	return api.OK
}

// remove takes an order out that lives, and tells of it.
func (e *Engine) remove(i *instrument, o api.Order) {
	if !isStop(o) {
		told, _ := i.book.Cancel(o.ID)
		e.follow(i, told)
		return
	}
	i.stops.Cancel(o.ID)
	e.tellOrder(eventOf(api.EvCancelled, o))
	e.end(o.ID)
}

// replace changes an order that lives (E4).
func (e *Engine) replace(c api.Command) api.Errno {
	x, i := e.findOrder(c.Owner, c.Name)
	if i == nil {
		return api.ErrNone
	}
	o := changed(x, c.O)
	if err := e.refusesChange(i, o, c); err != api.OK {
		return err
	}
	if isStop(o) {
		return e.replaceStop(i, o, c.O.Name)
	}
	told, err := i.change(x, o)
	if err != api.OK {
		return err
	}
	e.name(i, o, c.O.Name)
	e.follow(i, told)
	return api.OK
}

// replaceStop changes an order that waits for a price; the last one may be it then.
func (e *Engine) replaceStop(i *instrument, o api.Order, name string) api.Errno {
	if err := i.stops.Replace(o.ID, o.Stop, o.Price, o.Qty); err != api.OK {
		return err
	}
	e.name(i, o, name)
	e.tellOrder(eventOf(api.EvReplaced, o))
	e.guard.Open(o, i.mark())
	e.wake(i)
	return api.OK
}

// changed gives an order as a replacement would have it, by its old name.
func changed(o, to api.Order) api.Order {
	if to.Price != 0 {
		o.Price = to.Price
	}
	if to.Stop != 0 {
		o.Stop = to.Stop
	} else if !isStop(o) {
		o.Stop = 0
	}
	o.Qty = to.Qty - o.Done
	return o
}

// refusesChange tells why an order may not be as a replacement would have it.
func (e *Engine) refusesChange(i *instrument, o api.Order, c api.Command) api.Errno {
	if !msg.IsID(c.O.Name) || o.Qty < 1 || o.Qty > api.MaxQty {
		return api.ErrArg
	}
	if err := e.refusesName(o.Owner, c.O.Name); err != api.OK {
		return err
	}
	if i.phase != api.PreOpen && i.phase != api.Trading && i.phase != api.Closing {
		return api.ErrPhase
	}
	whole := within(o, c.O.Qty)
	whole.Qty = c.O.Qty
	if i.phase != api.Trading {
		whole.Least = 0
	}
	if err := e.refusesListed(i, whole); err != api.OK {
		return err
	}
	return e.guard.Check(o, i.mark(), e.now)
}

// cancelMany takes out the orders of an owner, or some of them (E5).
func (e *Engine) cancelMany(c api.Command) api.Errno {
	if c.O.Side < 0 || c.O.Side > api.Sell {
		return api.ErrArg
	}
	if c.O.Symbol != "" && e.find(c.O.Symbol) == nil {
		return api.ErrSymbol
	}
	if _, _, err := e.guard.Look(c.O.Account, c.O.Symbol); c.O.Account != "" && err != api.OK {
		return err
	}
	count := e.removeAll(func(o api.Order) bool {
		return o.Owner == c.Owner &&
			(c.O.Symbol == "" || o.Symbol == c.O.Symbol) &&
			(c.O.Account == "" || o.Account == c.O.Account) &&
			(c.O.Side == 0 || o.Side == c.O.Side)
	})
	e.tell(api.Event{Kind: api.EvMass, Symbol: c.O.Symbol, Owner: c.Owner, Name: c.O.Name, O: c.O, Count: count})
	return api.OK
}

// removeAll takes out the orders that are meant; gives how many.
func (e *Engine) removeAll(means func(api.Order) bool) int {
	count := 0
	for _, i := range e.instruments {
		for _, o := range i.orders() {
			if means(o) {
				e.remove(i, o)
				count++
			}
		}
	}
	return count
}

// halt holds an instrument (E6).
func (e *Engine) halt(symbol string) api.Errno {
	i := e.find(symbol)
	switch {
	case i == nil:
		return api.ErrSymbol
	case i.held:
		return api.ErrState
	case i.phase == api.Closed:
		return api.ErrPhase
	}
	i.held = true
	e.enter(i, api.Halted, e.now)
	return api.OK
}

// resume lets an instrument that is held go on, where it would be by now (E6).
func (e *Engine) resume(symbol string) api.Errno {
	i := e.find(symbol)
	switch {
	case i == nil:
		return api.ErrSymbol
	case !i.held:
		return api.ErrState
	}
	i.held = false
	phase, _ := i.listing.Phase(e.now)
	e.enter(i, phase, e.now)
	return api.OK
}

// kill stops an account, of which nothing lives then, or lets it go on (E6).
func (e *Engine) kill(account string, on bool) api.Errno {
	if err := e.guard.Kill(account, on); err != api.OK {
		return err
	}
	if on {
		count := e.removeAll(func(o api.Order) bool { return o.Account == account })
		e.tell(api.Event{Kind: api.EvMass, O: api.Order{Account: account}, Count: count})
	}
	return api.OK
}
