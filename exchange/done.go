package exchange

import (
	"outcry/api"
	"outcry/tape"
)

// take takes what the gateway has had done since the last time.
func (x *Exchange) take() {
	for _, c := range x.Commands() {
		x.tape.Append(c) // what it refuses is not on it
	}
	x.packets = append(x.packets, x.note(x.Events())...)
}

// play does the commands of a tape, as far as it is right; no firm is told, and nobody gets the packets (Z1).
func (x *Exchange) play(b []byte) api.Errno {
	played, _, err := tape.Open(b)
	if err != api.OK {
		return err
	}
	for n := range played.Len() {
		c, _ := played.Command(n)
		x.note(x.engine.Do(c))
	}
	x.tape = played
	return api.OK
}

// note books what was traded, and tells the feed what has come of commands; its packets.
func (x *Exchange) note(told []api.Event) [][]byte {
	x.book(told)
	// Behind commands the engine's time is the latest: those of a gateway have the latest of all its calls, and one of a tape moves time on to its own, if that is a time.
	return x.feed.Tell(told, x.engine.Now())
}

// book books the trades among events: of each the buyer's event is told, and directly behind it the seller's.
func (x *Exchange) book(told []api.Event) {
trades:
	for {
		for n := range len(told) - 1 {
			if told[n].Kind == api.EvTrade && told[n].Side == api.Buy {
				x.bookTrade(told[n], told[n+1])
				told = told[n+2:]
				continue trades
			}
		}
		return
	}
}

// bookTrade books a trade with its fees. What the ledger refuses is not booked.
func (x *Exchange) bookTrade(bought, sold api.Event) {
	f := bought.F
	x.ledger.Trade(bought.Symbol, bought.O.Account, sold.O.Account, f.Price, f.Qty, x.fee(bought), x.fee(sold))
}

// fee tells what the account of a trade's event pays. Where nobody takes, in an auction, both have waited.
func (x *Exchange) fee(traded api.Event) int64 {
	f := traded.F
	return x.rules[traded.Symbol].Fee(f.Price*f.Qty, f.Taker == traded.Side)
}
