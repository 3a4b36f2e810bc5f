package exchange

import (
	"bytes"
	"encoding/binary"
	"hash/crc32"
	"math/big"
	"slices"
	"strings"

	"outcry/api"
	"outcry/clock"
	"outcry/engine"
	"outcry/feed"
	"outcry/gateway"
	"outcry/tape"
)

// A second reading of the chapter, by other means, against which the package is held: behind a gateway of its own it keeps nothing but the commands and the events, with their times, and each answer is found by going through all of them from the first on.

// told is what has come of a call, or of a command that was played.
type told struct {
	events []api.Event
	at     int64
}

type reading struct {
	s        Setup
	g        *gateway.Gateway
	commands []api.Command
	calls    []told
	latest   int64
	taken    int // of so many calls the packets were handed out
	closed   int // so many calls were there at the last Close
}

// record writes a tape's record as chapter 18 has it.
func record(c api.Command, number int) []byte {
	command, _ := tape.Encode(c)
	head := binary.BigEndian.AppendUint16(nil, uint16(len(command)))
	sum := crc32.ChecksumIEEE(append(binary.BigEndian.AppendUint32(slices.Clone(head), uint32(number)), command...))
	return append(binary.BigEndian.AppendUint32(head, sum), command...)
}

// records reads those of a tape that are right.
func records(b []byte) []api.Command {
	var l []api.Command
	for b = b[4:]; len(b) >= 6; {
		end := 6 + int(binary.BigEndian.Uint16(b))
		if len(b) < end {
			break
		}
		c, err := tape.Decode(b[6:end])
		if err != nil || !bytes.Equal(record(c, len(l)), b[:end]) {
			break
		}
		l, b = append(l, c), b[end:]
	}
	return l
}

func newReading(s Setup, b []byte) (*reading, api.Errno) {
	e, err := newEngine(s)
	if err != api.OK {
		return nil, err
	}
	g, err := gateway.New(s.Name, s.Firms, e)
	if err != api.OK {
		return nil, err
	}
	r := &reading{s: s, g: g}
	if len(b) == 0 {
		return r, api.OK
	}
	if !strings.HasPrefix(string(b), "OTAP") {
		return nil, api.ErrTape
	}
	r.commands = records(b)
	for _, c := range r.commands {
		if c.Time <= api.MaxTime && c.Time > r.latest {
			r.latest = c.Time
		}
		r.calls = append(r.calls, told{e.Do(c), r.latest})
	}
	r.taken = len(r.calls)
	return r, api.OK
}

func newEngine(s Setup) (*engine.Engine, api.Errno) {
	days, err := clock.NewCalendar(s.Holidays...)
	if err != api.OK {
		return nil, err
	}
	return engine.New(s.Instruments, s.Accounts, days)
}

// called takes what a call had done that the gateway has answered.
func (r *reading) called(now int64, answer api.Errno) api.Errno {
	if answer != api.ErrArg && answer != api.ErrConn && now > r.latest {
		r.latest = now
	}
	r.commands = append(r.commands, r.g.Commands()...)
	r.calls = append(r.calls, told{r.g.Events(), r.latest})
	return answer
}

func (r *reading) connect(kind int, now int64) (int, api.Errno) {
	n, e := r.g.Connect(kind, now)
	return n, r.called(now, e)
}

func (r *reading) bytes(conn int, b []byte, now int64) api.Errno {
	return r.called(now, r.g.Bytes(conn, b, now))
}

func (r *reading) hangup(conn int, now int64) api.Errno {
	return r.called(now, r.g.Hangup(conn, now))
}

func (r *reading) tick(now int64) api.Errno { return r.called(now, r.g.Tick(now)) }

// fed gives a feed that has told all, and the packets that nobody was given.
func (r *reading) fed() (*feed.Feed, [][]byte) {
	var symbols []string
	for _, i := range r.s.Instruments {
		symbols = append(symbols, i.Symbol)
	}
	f, _ := feed.New(symbols)
	var fresh [][]byte
	for n, c := range r.calls {
		if l := f.Tell(c.events, c.at); n >= r.taken {
			fresh = append(fresh, l...)
		}
	}
	return f, fresh
}

func (r *reading) packets() [][]byte {
	_, fresh := r.fed()
	r.taken = len(r.calls)
	return fresh
}

func (r *reading) again(from, to int) [][]byte {
	f, _ := r.fed()
	return f.Again(from, to)
}

func (r *reading) snapshot(now int64) [][]byte {
	f, _ := r.fed()
	if now >= 0 && now <= api.MaxTime {
		return f.Snapshot(now)
	}
	return nil
}

func (r *reading) tape() []byte {
	b := []byte("OTAP")
	for n, c := range r.commands {
		b = append(b, record(c, n)...)
	}
	return b
}

// depths gives the levels of all instruments, of another engine that has done all commands with so many workers.
func (r *reading) depths(workers int) map[string][]api.Level {
	e, _ := newEngine(r.s)
	e.Run(r.commands, workers)
	all := map[string][]api.Level{}
	for _, i := range r.s.Instruments {
		for side, word := range []string{" nothing", " buy", " sell"} {
			all[i.Symbol+word], _ = e.Depth(i.Symbol, side)
		}
	}
	return all
}

// fee is a share of a value, in millionths, rounded down.
func (r *reading) fee(symbol string, value int64, taker bool) int64 {
	for _, i := range r.s.Instruments {
		if i.Symbol == symbol {
			share := i.Maker
			if taker {
				share = i.Taker
			}
			n := new(big.Int).Mul(big.NewInt(value), big.NewInt(int64(share)))
			return new(big.Int).Div(n, big.NewInt(1000000)).Int64()
		}
	}
	panic("a trade of no instrument: " + symbol)
}

// bookings gives what the trades of the calls from one on have booked: of each its three lines.
func (r *reading) bookings(from int) []api.Booking {
	var l []api.Booking
	for _, c := range r.calls[from:] {
		for n, x := range c.events {
			if x.Kind != api.EvTrade || x.Side != api.Buy {
				continue
			}
			y := c.events[n+1]
			if y.Kind != api.EvTrade || y.Side != api.Sell || y.F != x.F || y.Symbol != x.Symbol {
				panic("a trade of one alone")
			}
			value := x.F.Price * x.F.Qty
			bought := api.Booking{Account: x.O.Account, Symbol: x.Symbol, Qty: x.F.Qty, Cash: -value, Fee: r.fee(x.Symbol, value, x.F.Taker == 1)}
			sold := api.Booking{Account: y.O.Account, Symbol: x.Symbol, Qty: -x.F.Qty, Cash: value, Fee: r.fee(x.Symbol, value, x.F.Taker == 2)}
			l = append(l, bought, sold, api.Booking{Symbol: x.Symbol, Fee: -bought.Fee - sold.Fee})
		}
	}
	return l
}

func (r *reading) balance(account, symbol string) (qty, cash int64) {
	for _, b := range r.bookings(0) {
		if b.Account == account {
			cash += b.Cash - b.Fee
			if b.Symbol == symbol {
				qty += b.Qty
			}
		}
	}
	return qty, cash
}

// close sums up the day by insertion: what is behind in the order goes on behind.
func (r *reading) close() []api.Booking {
	var sums []api.Booking
	for _, b := range r.bookings(r.closed) {
		at := 0
		for at < len(sums) && sums[at].Account+" "+sums[at].Symbol < b.Account+" "+b.Symbol {
			at++
		}
		if at == len(sums) || sums[at].Account != b.Account || sums[at].Symbol != b.Symbol {
			sums = slices.Insert(sums, at, api.Booking{Account: b.Account, Symbol: b.Symbol})
		}
		sums[at].Qty += b.Qty
		sums[at].Cash += b.Cash
		sums[at].Fee += b.Fee
	}
	r.closed = len(r.calls)
	return slices.DeleteFunc(sums, func(b api.Booking) bool { return b.Qty == 0 && b.Cash == 0 && b.Fee == 0 })
}
