package ledger

import (
	"fmt"
	"testing"

	"outcry/api"
)

// A bound is gone beyond by one thing alone: what (of the symbol X, or over all symbols), whose, in which role, in which direction.
type bound struct {
	what      string // "Cash", "Fee", "money", "fees"
	account   string
	role      string // "buyer", "seller", or "none" (of the house)
	direction int64
}

func bounds() []bound {
	var list []bound
	for _, what := range []string{"Cash", "Fee", "money", "fees"} {
		for _, direction := range []int64{-1, 1} {
			for _, account := range []string{"a", ""} {
				if what != "Cash" || direction < 0 {
					list = append(list, bound{what, account, "buyer", direction})
				}
				if what != "Cash" || direction > 0 {
					list = append(list, bound{what, account, "seller", direction})
				}
			}
			if what != "Cash" {
				list = append(list, bound{what, "", "none", direction})
			}
		}
	}
	return list
}

// move is a trade that moves what the bound is of by one, in its direction.
func (b bound) move() deal {
	symbol, fees := "Z", b.direction
	switch {
	case b.what == "Cash":
		symbol, fees = "X", 0
	case b.what == "Fee":
		symbol = "X"
	case b.what == "money" && b.role == "buyer":
		fees = -1 - b.direction
	case b.what == "money" && b.role == "seller":
		fees = 1 - b.direction
	case b.what == "money":
		fees = -b.direction
	}
	switch b.role {
	case "buyer":
		return fee(symbol, b.account, "q", fees, -fees)
	case "seller":
		return fee(symbol, "q", b.account, -fees, fees)
	}
	return fee(symbol, "q", "r", -fees, 0)
}

// load gives the account n, in a direction, of what the bound is of, and less than that of all else.
func (b bound) load(t *testing.T, l *Ledger, n, direction int64) {
	t.Helper()
	const part = most / 10
	switch b.what {
	case "Cash":
		give(t, l, b.account, "Y", -direction*part, 0)
		give(t, l, b.account, "X", direction*n, 0)
	case "Fee":
		give(t, l, b.account, "Y", direction*5*part, -direction*part)
		give(t, l, b.account, "X", 0, direction*n)
	case "money":
		give(t, l, b.account, "X", direction*5*part, -direction*(n-5*part))
	case "fees":
		give(t, l, b.account, "X", direction*3*part, direction*5*part)
		give(t, l, b.account, "Y", 0, direction*(n-5*part))
	}
}

// give trades till an account has so much more Cash and Fee of a symbol. The others are many, so that none of them has much, and the house gets nothing.
func give(t *testing.T, l *Ledger, account, symbol string, cash, fees int64) {
	t.Helper()
	for i := 0; cash != 0 || fees != 0; i++ {
		other := fmt.Sprint("p", i%10)
		c, f := min(max(cash, -greatFee), greatFee), min(max(fees, -greatFee), greatFee)
		cash -= c
		fees -= f
		if c == 0 {
			booked(t, l, fee(symbol, account, other, f, -f), fee(symbol, other, account, 0, 0))
			continue
		}
		price, qty, rest := max(c, -c)/api.MaxQty, int64(api.MaxQty), max(c, -c)%api.MaxQty
		if price == 0 {
			price, qty, rest = rest, 1, 0
		}
		if rest != 0 {
			cash += c / max(c, -c) * rest
		}
		d := deal{symbol, account, other, price, qty, f, -f}
		if c > 0 {
			d = deal{symbol, other, account, price, qty, -f, f}
		}
		booked(t, l, d)
	}
}

// has tells how much there is of what the bound is of.
func (b bound) has(l *Ledger) int64 {
	money, fees := l.Cash(b.account)
	_, cash := l.Balance(b.account, "X")
	switch b.what {
	case "Cash":
		return cash
	case "money":
		return money
	case "fees":
		return fees
	}
	for _, x := range l.Net() {
		if x.Account == b.account && x.Symbol == "X" {
			return x.Fee
		}
	}
	return 0
}

func (b bound) check(t *testing.T, l *Ledger, want int64) {
	t.Helper()
	if n := b.has(l); n != want {
		t.Fatalf("%+v: %d, want %d", b, n, want)
	}
}

func TestJ2GreatOfEachThing(t *testing.T) {
	for _, b := range bounds() {
		l := New()
		b.load(t, l, most-1, b.direction)
		b.check(t, l, b.direction*(most-1))
		n := len(l.broken)
		booked(t, l, b.move())
		b.check(t, l, b.direction*most)
		refused(t, fmt.Sprintf("%+v", b), l, b.move(), api.ErrGreat)
		refused(t, fmt.Sprintf("%+v, once more", b), l, b.move(), api.ErrGreat)
		stays(t, "it has no number", l, n+2, api.ErrNone)
		checkErrno(t, "Break of the one at the bound", l.Break(n+1), api.OK)
		booked(t, l, b.move())
		b.check(t, l, b.direction*most)
		checkErrno(t, "its number", l.Break(n+2), api.OK)
		stays(t, "its number", l, n+3, api.ErrNone)
	}
}

// TestJ3GreatOfEachThing takes a trade back that had moved what the bound is of away from it.
func TestJ3GreatOfEachThing(t *testing.T) {
	for _, b := range bounds() {
		l := New()
		booked(t, l, b.move(), b.move())
		b.load(t, l, most+1, -b.direction)
		b.check(t, l, -b.direction*(most-1))
		checkErrno(t, "up to the bound", l.Break(2), api.OK)
		b.check(t, l, -b.direction*most)
		stays(t, fmt.Sprintf("%+v", b), l, 1, api.ErrGreat)
		stays(t, fmt.Sprintf("%+v, once more", b), l, 1, api.ErrGreat)
		booked(t, l, b.move())
		b.check(t, l, -b.direction*(most-1))
		checkErrno(t, "there is room now", l.Break(1), api.OK)
		b.check(t, l, -b.direction*most)
	}
}
