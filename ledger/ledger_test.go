package ledger

import (
	"fmt"
	"maps"
	"math"
	"slices"
	"strings"
	"sync"
	"testing"

	"outcry/api"
)

const (
	most     = 1000000000000000000 // of what an account has
	greatFee = 1000000000000000
)

// deal is a trade as it is handed in.
type deal struct {
	symbol, buyer, seller       string
	price, qty, buyFee, sellFee int64
}

func (d deal) in(l *Ledger) api.Errno {
	return l.Trade(d.symbol, d.buyer, d.seller, d.price, d.qty, d.buyFee, d.sellFee)
}

// greatest is a trade of the greatest value, 10^15, a thousandth of what may be.
func greatest(symbol, buyer, seller string) deal {
	return deal{symbol, buyer, seller, api.MaxPrice, api.MaxQty, 0, 0}
}

// booked books trades, all of which may be.
func booked(t *testing.T, l *Ledger, deals ...deal) {
	t.Helper()
	for _, d := range deals {
		if e := d.in(l); e != api.OK {
			t.Fatalf("Trade(%+v): %d", d, e)
		}
	}
}

// bookedTimes books a trade many times.
func bookedTimes(t *testing.T, l *Ledger, times int, d deal) {
	t.Helper()
	for range times {
		booked(t, l, d)
	}
}

func checkErrno(t *testing.T, name string, got, want api.Errno) {
	t.Helper()
	if got != want {
		t.Errorf("%s: %d, want %d", name, got, want)
	}
}

func checkBalance(t *testing.T, l *Ledger, account, symbol string, qty, cash int64) {
	t.Helper()
	if q, c := l.Balance(account, symbol); q != qty || c != cash {
		t.Errorf("Balance(%q, %q): %d, %d, want %d, %d", account, symbol, q, c, qty, cash)
	}
}

func checkCash(t *testing.T, l *Ledger, account string, cash, fees int64) {
	t.Helper()
	if c, f := l.Cash(account); c != cash || f != fees {
		t.Errorf("Cash(%q): %d, %d, want %d, %d", account, c, f, cash, fees)
	}
}

func checkValue(t *testing.T, l *Ledger, account string, prices map[string]int64, want int64) {
	t.Helper()
	if v := l.Value(account, prices); v != want {
		t.Errorf("Value(%q, %v): %d, want %d", account, prices, v, want)
	}
}

func checkList(t *testing.T, name string, got []api.Booking, want ...api.Booking) {
	t.Helper()
	if !slices.Equal(got, want) {
		t.Errorf("%s: %v, want %v", name, got, want)
	}
}

// checkZeroSum holds what follows: all that was netted sums up to 0, by symbols; and so does the money.
func checkZeroSum(t *testing.T, l *Ledger, list []api.Booking, accounts ...string) {
	t.Helper()
	sums := map[string][2]int64{}
	var fees, money, paid int64
	for _, b := range list {
		s := sums[b.Symbol]
		sums[b.Symbol] = [2]int64{s[0] + b.Qty, s[1] + b.Cash}
		fees += b.Fee
	}
	for symbol, s := range sums {
		if s != [2]int64{} {
			t.Errorf("%q: %v over all accounts, of %v", symbol, s, list)
		}
	}
	for _, account := range accounts {
		c, f := l.Cash(account)
		money += c
		paid += f
	}
	if fees != 0 || money != 0 || paid != 0 {
		t.Errorf("fees %d and %d, money %d over all accounts", fees, paid, money)
	}
}

// state is all that can be asked of a ledger about some accounts and symbols, as text.
func state(l *Ledger) string {
	var s strings.Builder
	for _, account := range []string{"", "a", "b", "c", "X"} {
		c, f := l.Cash(account)
		fmt.Fprintf(&s, "%q: %d %d;", account, c, f)
		for _, symbol := range []string{"", "X", "Y", "Z"} {
			q, c := l.Balance(account, symbol)
			fmt.Fprintf(&s, " %q %d %d", symbol, q, c)
		}
		fmt.Fprintf(&s, " worth %d\n", l.Value(account, map[string]int64{"X": 3, "Y": 5, "": 7}))
	}
	return s.String() + fmt.Sprint(l.Net())
}

// refused checks that a trade is refused, and changes nothing.
func refused(t *testing.T, name string, l *Ledger, d deal, want api.Errno) {
	t.Helper()
	was := state(l)
	checkErrno(t, fmt.Sprintf("%s: Trade(%+v)", name, d), d.in(l), want)
	if now := state(l); now != was {
		t.Errorf("%s: changed from\n%s\nto\n%s", name, was, now)
	}
}

// stays checks that Break is refused, and changes nothing.
func stays(t *testing.T, name string, l *Ledger, n int, want api.Errno) {
	t.Helper()
	was := state(l)
	checkErrno(t, fmt.Sprintf("%s: Break(%d)", name, n), l.Break(n), want)
	if now := state(l); now != was {
		t.Errorf("%s: changed from\n%s\nto\n%s", name, was, now)
	}
}

func TestChapterExamples(t *testing.T) {
	l := New()
	booked(t, l, deal{"X", "a", "b", 100, 10, 3, -1})
	checkBalance(t, l, "a", "X", 10, -1000)
	checkBalance(t, l, "b", "X", -10, 1000)
	checkCash(t, l, "a", -1003, 3)
	checkCash(t, l, "b", 1001, -1)
	checkCash(t, l, "", 2, -2)
	checkList(t, "Net", l.Net(), api.Booking{Symbol: "X", Fee: -2}, api.Booking{Account: "a", Symbol: "X", Qty: 10, Cash: -1000, Fee: 3}, api.Booking{Account: "b", Symbol: "X", Qty: -10, Cash: 1000, Fee: -1})
	checkValue(t, l, "a", map[string]int64{"X": 110}, 97)
	checkErrno(t, "Break", l.Break(1), api.OK)
	for _, account := range []string{"", "a", "b"} {
		checkBalance(t, l, account, "X", 0, 0)
		checkCash(t, l, account, 0, 0)
	}
	checkList(t, "Net behind Break", l.Net())
	checkErrno(t, "Break once more", l.Break(1), api.ErrGone)
	checkErrno(t, "Break of none", l.Break(2), api.ErrNone)
}

func TestJ1NewHasNothing(t *testing.T) {
	l := New()
	for _, account := range []string{"", "a", "\x00\xff", strings.Repeat("a", 100000)} {
		checkCash(t, l, account, 0, 0)
		checkBalance(t, l, account, "X", 0, 0)
		checkBalance(t, l, account, "", 0, 0)
		checkValue(t, l, account, map[string]int64{"X": 5, "": math.MaxInt64}, 0)
	}
	checkList(t, "Net", l.Net())
	checkList(t, "Close", l.Close())
	for _, n := range []int{math.MinInt, -1, 0, 1, 2, math.MaxInt} {
		stays(t, "nothing", l, n, api.ErrNone)
	}
}

func TestJ1LedgersStandAlone(t *testing.T) {
	a, b := New(), New()
	booked(t, a, deal{"X", "a", "b", 2, 3, 4, 5})
	checkBalance(t, b, "a", "X", 0, 0)
	checkCash(t, b, "", 0, 0)
	stays(t, "the other's", b, 1, api.ErrNone)
	b.Close()
	checkErrno(t, "its own day", a.Break(1), api.OK)
}

func TestJ2WrongArguments(t *testing.T) {
	for _, c := range []struct {
		price, qty, buyFee, sellFee int64
		want                        api.Errno
	}{
		{1, 1, 0, 0, api.OK},
		{api.MaxPrice, api.MaxQty, greatFee, greatFee, api.OK},
		{api.MaxPrice, api.MaxQty, -greatFee, -greatFee, api.OK},
		{1, api.MaxQty, greatFee, -greatFee, api.OK},
		{0, 1, 0, 0, api.ErrArg},
		{-1, 1, 0, 0, api.ErrArg},
		{api.MaxPrice + 1, 1, 0, 0, api.ErrArg},
		{math.MaxInt64, 1, 0, 0, api.ErrArg},
		{math.MinInt64, 1, 0, 0, api.ErrArg},
		{1, 0, 0, 0, api.ErrArg},
		{1, -1, 0, 0, api.ErrArg},
		{1, api.MaxQty + 1, 0, 0, api.ErrArg},
		{1, math.MaxInt64, 0, 0, api.ErrArg},
		{1, math.MinInt64, 0, 0, api.ErrArg},
		{1, 1, greatFee + 1, 0, api.ErrArg},
		{1, 1, -greatFee - 1, 0, api.ErrArg},
		{1, 1, 0, greatFee + 1, api.ErrArg},
		{1, 1, 0, -greatFee - 1, api.ErrArg},
		{1, 1, math.MaxInt64, math.MinInt64, api.ErrArg},
		{1, 1, math.MinInt64, math.MaxInt64, api.ErrArg},
		{-1, -1, 0, 0, api.ErrArg},
	} {
		l := New()
		booked(t, l, deal{"X", "a", "b", 7, 8, 9, 10})
		d := deal{"X", "a", "b", c.price, c.qty, c.buyFee, c.sellFee}
		if c.want == api.OK {
			booked(t, l, d)
			checkBalance(t, l, "a", "X", 8+c.qty, -56-c.price*c.qty)
			checkBalance(t, l, "b", "X", -8-c.qty, 56+c.price*c.qty)
			checkCash(t, l, "a", -56-9-c.price*c.qty-c.buyFee, 9+c.buyFee)
			checkCash(t, l, "b", 56-10+c.price*c.qty-c.sellFee, 10+c.sellFee)
			checkCash(t, l, "", 19+c.buyFee+c.sellFee, -19-c.buyFee-c.sellFee)
			continue
		}
		refused(t, "wrong", l, d, c.want)
		stays(t, "it has no number", l, 2, api.ErrNone)
	}
}

func TestJ2OneAccountOnBothSides(t *testing.T) {
	l := New()
	booked(t, l, deal{"X", "a", "a", 5, 2, 1, 2})
	checkBalance(t, l, "a", "X", 0, 0)
	checkCash(t, l, "a", -3, 3)
	checkCash(t, l, "", 3, -3)
	checkList(t, "Net", l.Net(), api.Booking{Symbol: "X", Fee: -3}, api.Booking{Account: "a", Symbol: "X", Fee: 3})
	checkErrno(t, "Break", l.Break(1), api.OK)
	checkList(t, "Net behind Break", l.Net())
	booked(t, l, deal{"X", "a", "a", 5, 2, 4, -4})
	checkList(t, "nothing is left of it", l.Net())
}

func TestJ2TheHouseTrades(t *testing.T) {
	for _, c := range []struct {
		buyer, seller     string
		qty, cash         int64
		house, houseFees  int64
		other, otherMoney int64
	}{
		{"", "a", 2, -10, -10 + 2, -2, 2, 10 - 2},
		{"a", "", -2, 10, 10 + 1, -1, 1, -10 - 1},
		{"", "", 0, 0, 0, 0, 0, 0},
	} {
		l := New()
		booked(t, l, deal{"X", c.buyer, c.seller, 5, 2, 1, 2})
		checkBalance(t, l, "", "X", c.qty, c.cash)
		checkBalance(t, l, "a", "X", -c.qty, -c.cash)
		checkCash(t, l, "", c.house, c.houseFees)
		checkCash(t, l, "a", c.otherMoney, c.other)
		checkErrno(t, "Break", l.Break(1), api.OK)
		checkList(t, "Net behind Break", l.Net())
		checkCash(t, l, "", 0, 0)
		checkCash(t, l, "a", 0, 0)
	}
}

func TestJ2AccountsAndSymbolsAreAnyTexts(t *testing.T) {
	texts := []string{"", "a", "A", "ab", "b", "a\x00", "\x00", "\xff\xfe", "é", "a b", strings.Repeat("x", 100000)}
	l := New()
	want := map[string]int64{}
	for i, account := range texts {
		for j, symbol := range texts {
			qty := int64(1 + i*len(texts) + j)
			want[fmt.Sprint(i, j)] = qty
			booked(t, l, deal{symbol, account, "the other", 3, qty, 0, 0})
		}
	}
	for i, account := range texts {
		for j, symbol := range texts {
			qty := want[fmt.Sprint(i, j)]
			checkBalance(t, l, account, symbol, qty, -3*qty)
		}
	}
	if n := len(l.Net()); n != len(texts)*(len(texts)+1) {
		t.Errorf("%d bookings", n)
	}
}

// TestJ2ASymbolIsNoAccount has texts that would be one another, were they written behind one another.
func TestJ2ASymbolIsNoAccount(t *testing.T) {
	l := New()
	booked(t, l, deal{"bc", "a", "z", 1, 1, 0, 0}, deal{"c", "ab", "z", 1, 20, 0, 0}, deal{"", "abc", "z", 1, 300, 0, 0}, deal{"abc", "", "z", 1, 4000, 0, 0})
	checkBalance(t, l, "a", "bc", 1, -1)
	checkBalance(t, l, "ab", "c", 20, -20)
	checkBalance(t, l, "abc", "", 300, -300)
	checkBalance(t, l, "", "abc", 4000, -4000)
}

func TestJ2Many(t *testing.T) {
	l := New()
	bookedTimes(t, l, 1000, greatest("X", "a", "b"))
	l.Close()
	bookedTimes(t, l, api.MaxBooked-1001, deal{"Y", "c", "d", 1, 1, 0, 0})
	refused(t, "too great, while one more may come", l, deal{"X", "a", "b", 1, 1, 0, 0}, api.ErrGreat)
	booked(t, l, deal{"Y", "c", "d", 1, 1, 0, 0})
	one := deal{"Y", "c", "d", 1, 1, 0, 0}
	refused(t, "one more", l, one, api.ErrMany)
	checkErrno(t, "Break", l.Break(api.MaxBooked), api.OK)
	checkErrno(t, "Break", l.Break(1001), api.OK)
	refused(t, "what was taken back counts", l, one, api.ErrMany)
	l.Close()
	refused(t, "what was closed counts", l, one, api.ErrMany)
	refused(t, "ErrMany ahead of ErrGreat", l, deal{"X", "a", "b", 1, 1, 0, 0}, api.ErrMany)
	refused(t, "ErrArg ahead of ErrMany", l, deal{"X", "a", "b", 0, 1, 0, 0}, api.ErrArg)
	checkBalance(t, l, "c", "Y", api.MaxBooked-1002, -api.MaxBooked+1002)
	stays(t, "behind the last", l, api.MaxBooked+1, api.ErrNone)
	stays(t, "the last", l, api.MaxBooked, api.ErrGone)
	stays(t, "of a closed day", l, api.MaxBooked-1, api.ErrState)
}

// fee is a trade of one at a price of one, with fees.
func fee(symbol, buyer, seller string, buyFee, sellFee int64) deal {
	return deal{symbol, buyer, seller, 1, 1, buyFee, sellFee}
}

// TestJ2OnlyWhatIsBehindItCounts has accounts at their bounds for whom a trade adds up to nothing, or leads back.
func TestJ2OnlyWhatIsBehindItCounts(t *testing.T) {
	l := New()
	bookedTimes(t, l, 1000, greatest("X", "a", "b"))
	booked(t, l, greatest("X", "a", "a"), greatest("X", "b", "b"), fee("X", "a", "a", greatFee, -greatFee), fee("X", "b", "b", -greatFee, greatFee))
	checkBalance(t, l, "a", "X", 1000*api.MaxQty, -most)
	checkBalance(t, l, "b", "X", -1000*api.MaxQty, most)
	refused(t, "a's money", l, fee("X", "a", "a", 1, 0), api.ErrGreat)
	refused(t, "b's money", l, fee("Y", "b", "b", -1, 0), api.ErrGreat)
	refused(t, "money beyond, by a fee of one who sells", l, deal{"X", "c", "a", 1, 1, 0, 2}, api.ErrGreat)
	refused(t, "Cash beyond, with a fee that keeps the money within", l, deal{"X", "a", "c", 1, 1, -2, 0}, api.ErrGreat)
	booked(t, l, deal{"Y", "a", "c", 1, 1, -1, 0})
	checkCash(t, l, "a", -most, -1)
	booked(t, l, greatest("X", "b", "a"))
	checkCash(t, l, "a", -most+greatFee, -1)

	house := New()
	bookedTimes(t, house, 500, fee("X", "a", "b", greatFee, greatFee))
	booked(t, house, fee("X", "", "", greatFee, greatFee), fee("X", "", "", -greatFee, greatFee), fee("X", "", "c", greatFee, 0), fee("X", "c", "", 0, greatFee))
	checkCash(t, house, "", most, -most)
	refused(t, "the house gets a fee of another", house, fee("X", "", "c", 5, 1), api.ErrGreat)
	booked(t, house, fee("X", "", "c", 1, -1))
	checkCash(t, house, "", most-2, -most+1)
}

// TestJ2WhatWasBookedInPartIsUndone refuses trades by each of the three who get something, behind the others.
func TestJ2WhatWasBookedInPartIsUndone(t *testing.T) {
	l := New()
	bookedTimes(t, l, 1000, greatest("X", "a", "b"))
	refused(t, "the buyer", l, deal{"X", "a", "new", 2, 3, 4, 5}, api.ErrGreat)
	refused(t, "the seller", l, deal{"X", "new", "b", 2, 3, 4, 5}, api.ErrGreat)
	checkBalance(t, l, "new", "X", 0, 0)
	checkCash(t, l, "new", 0, 0)
	fees := New()
	bookedTimes(t, fees, 500, fee("X", "a", "b", greatFee, greatFee))
	refused(t, "the house", fees, deal{"X", "new", "newer", 2, 3, 4, 5}, api.ErrGreat)
	for _, account := range []string{"new", "newer"} {
		checkBalance(t, fees, account, "X", 0, 0)
		checkCash(t, fees, account, 0, 0)
	}
	if n, m := len(fees.all), len(fees.totals); n != 3 || m != 3 {
		t.Errorf("%d lines and %d accounts are kept", n, m)
	}
}

func TestJ3Break(t *testing.T) {
	l := New()
	booked(t, l, deal{"X", "a", "b", 2, 10, 1, 2}, deal{"Y", "b", "c", 3, 20, -3, 4}, deal{"X", "c", "a", 5, 30, 5, -6})
	checkErrno(t, "Break", l.Break(2), api.OK)
	checkBalance(t, l, "b", "Y", 0, 0)
	checkBalance(t, l, "b", "X", -10, 20)
	checkCash(t, l, "b", 18, 2)
	checkCash(t, l, "c", -155, 5)
	checkCash(t, l, "", 2, -2)
	for _, n := range []int{math.MinInt, -2, -1, 0, 4, 5, math.MaxInt} {
		stays(t, "no such trade", l, n, api.ErrNone)
	}
	stays(t, "once more", l, 2, api.ErrGone)
	booked(t, l, deal{"X", "a", "b", 1, 1, 0, 0})
	checkErrno(t, "numbers go on", l.Break(4), api.OK)
	stays(t, "the fifth", l, 5, api.ErrNone)
	checkErrno(t, "the first", l.Break(1), api.OK)
	checkErrno(t, "the third", l.Break(3), api.OK)
	checkList(t, "Net", l.Net())
	for n := 1; n <= 4; n++ {
		stays(t, "all of them", l, n, api.ErrGone)
	}
	checkZeroSum(t, l, l.Net(), "", "a", "b", "c")
}

func TestJ3DaysThatAreClosed(t *testing.T) {
	l := New()
	d := deal{"X", "a", "b", 2, 10, 1, 2}
	booked(t, l, d, d)
	checkErrno(t, "of the day", l.Break(2), api.OK)
	l.Close()
	stays(t, "of the day ahead", l, 1, api.ErrState)
	stays(t, "ErrGone ahead of ErrState", l, 2, api.ErrGone)
	stays(t, "none yet", l, 3, api.ErrNone)
	booked(t, l, d, d)
	checkErrno(t, "of the second day", l.Break(3), api.OK)
	stays(t, "still", l, 1, api.ErrState)
	l.Close()
	l.Close()
	booked(t, l, d)
	stays(t, "of the second day", l, 4, api.ErrState)
	stays(t, "of the second day, taken back", l, 3, api.ErrGone)
	checkErrno(t, "of the fourth day", l.Break(5), api.OK)
	checkBalance(t, l, "a", "X", 20, -40)
}

func TestJ3Great(t *testing.T) {
	l := New()
	bookedTimes(t, l, 1000, greatest("X", "a", "b"))
	booked(t, l, deal{"X", "c", "a", 1, 1, 0, 0}, deal{"Y", "a", "c", 1, 1, 0, 0})
	stays(t, "Cash of the one who sold", l, 1001, api.ErrGreat)
	checkErrno(t, "leads back", l.Break(1), api.OK)
	checkErrno(t, "there is room now", l.Break(1001), api.OK)

	l = New()
	booked(t, l, fee("X", "a", "b", -7, 0))
	bookedTimes(t, l, 500, fee("Y", "a", "b", greatFee, greatFee))
	booked(t, l, fee("Z", "c", "d", 0, 7))
	stays(t, "the sum of the house's Fees", l, 1, api.ErrGreat)
	stays(t, "ErrNone ahead of it", l, 503, api.ErrNone)
	l.Close()
	stays(t, "ErrState ahead of ErrGreat", l, 1, api.ErrState)
	checkCash(t, l, "", most, -most)
}

// TestJ3LeavesWhatThereWouldBeWithoutIt books rows of trades, takes some back, and holds that against those that were not.
func TestJ3LeavesWhatThereWouldBeWithoutIt(t *testing.T) {
	accounts, symbols := []string{"", "a", "b"}, []string{"X", "Y"}
	for mask := range 64 {
		l, without := New(), New()
		for i := range 6 {
			d := deal{symbols[i%2], accounts[i%3], accounts[(i*i+1)%3], int64(i + 1), int64(2*i + 3), int64(i - 3), int64(5 - 2*i)}
			booked(t, l, d)
			if mask&(1<<i) == 0 {
				booked(t, without, d)
			}
		}
		for i := range 6 {
			if mask&(1<<i) != 0 {
				checkErrno(t, "Break", l.Break(i+1), api.OK)
			}
		}
		if a, b := state(l), state(without); a != b {
			t.Errorf("mask %b:\n%s\nwant\n%s", mask, a, b)
		}
		if len(l.all) != len(without.all) || len(l.totals) != len(without.totals) || !maps.Equal(l.today, without.today) {
			t.Errorf("mask %b: more is kept than there would be", mask)
		}
	}
}

func TestJ4BalanceAndCash(t *testing.T) {
	l := New()
	booked(t, l, deal{"X", "a", "b", 10, 1, 1, 2}, deal{"Y", "a", "c", 100, 2, 3, 4})
	l.Close()
	booked(t, l, deal{"X", "b", "a", 1000, 4, 5, 6})
	checkBalance(t, l, "a", "X", -3, 3990)
	checkBalance(t, l, "a", "Y", 2, -200)
	checkBalance(t, l, "b", "X", 3, -3990)
	checkBalance(t, l, "b", "Y", 0, 0)
	checkBalance(t, l, "c", "Y", -2, 200)
	checkBalance(t, l, "", "X", 0, 0)
	checkBalance(t, l, "X", "a", 0, 0)
	checkBalance(t, l, "a", "Z", 0, 0)
	checkBalance(t, l, "A", "X", 0, 0)
	checkCash(t, l, "a", 3990-200-1-3-6, 10)
	checkCash(t, l, "b", -3990-2-5, 7)
	checkCash(t, l, "c", 196, 4)
	checkCash(t, l, "", 21, -21)
	checkCash(t, l, "X", 0, 0)
	checkCash(t, l, "d", 0, 0)
}

func TestJ5NetIsInOrder(t *testing.T) {
	l := New()
	names := []string{"b", "", "ab", "a", "\xff", "a\x00", "é", "B", "abc", "aa", "10", "9"}
	for i, account := range names {
		for j, symbol := range names {
			booked(t, l, deal{symbol, account, "~", 1, int64(1 + i + j), 0, 0})
		}
	}
	list := l.Net()
	if len(list) != len(names)*(len(names)+1) {
		t.Errorf("%d bookings", len(list))
	}
	for i := range list[1:] {
		a, b := list[i], list[i+1]
		if a.Account > b.Account || a.Account == b.Account && a.Symbol >= b.Symbol {
			t.Errorf("%d: %+v ahead of %+v", i, a, b)
		}
	}
	checkZeroSum(t, l, list)
	sorted := []string{"", "10", "9", "B", "a", "a\x00", "aa", "ab", "abc", "b", "é", "\xff"}
	for i, symbol := range sorted {
		if list[i].Account != "" || list[i].Symbol != symbol {
			t.Errorf("%d: %+v, want %q of the house", i, list[i], symbol)
		}
	}
}

func TestJ5NetLeavesOutWhatIsNothing(t *testing.T) {
	l := New()
	booked(t, l, deal{"X", "a", "b", 10, 5, 1, 0}, deal{"X", "b", "a", 10, 5, 0, 0})
	checkList(t, "a fee alone", l.Net(), api.Booking{Symbol: "X", Fee: -1}, api.Booking{Account: "a", Symbol: "X", Fee: 1})
	booked(t, l, deal{"X", "a", "b", 10, 1, -1, 0}, deal{"X", "b", "a", 11, 1, 0, 0})
	checkList(t, "cash alone", l.Net(), api.Booking{Account: "a", Symbol: "X", Cash: 1}, api.Booking{Account: "b", Symbol: "X", Cash: -1})
	booked(t, l, deal{"X", "a", "b", 1, 1, 0, 0})
	checkList(t, "shares alone", l.Net(), api.Booking{Account: "a", Symbol: "X", Qty: 1}, api.Booking{Account: "b", Symbol: "X", Qty: -1})
	booked(t, l, deal{"X", "b", "a", 5, 1, 0, 0}, deal{"X", "a", "b", 5, 2, 0, 0}, deal{"X", "b", "a", 10, 1, 0, 0}, deal{"X", "b", "a", 1, 1, 0, 0})
	checkList(t, "cash once more", l.Net(), api.Booking{Account: "a", Symbol: "X", Cash: 6}, api.Booking{Account: "b", Symbol: "X", Cash: -6})
	booked(t, l, deal{"X", "a", "b", 6, 1, 0, 0}, deal{"X", "b", "a", 1, 1, 0, 0}, deal{"X", "a", "b", 2, 1, 0, 0}, deal{"X", "b", "a", 1, 1, 0, 0})
	checkList(t, "nothing", l.Net())
}

func TestJ5Days(t *testing.T) {
	l := New()
	booked(t, l, deal{"X", "a", "b", 10, 1, 1, 2}, deal{"Y", "a", "b", 10, 7, 0, 0})
	checkErrno(t, "Break", l.Break(2), api.OK)
	first := []api.Booking{{Symbol: "X", Fee: -3}, {Account: "a", Symbol: "X", Qty: 1, Cash: -10, Fee: 1}, {Account: "b", Symbol: "X", Qty: -1, Cash: 10, Fee: 2}}
	checkList(t, "Net", l.Net(), first...)
	checkList(t, "Net once more", l.Net(), first...)
	checkList(t, "Close", l.Close(), first...)
	checkList(t, "Net behind Close", l.Net())
	checkList(t, "Close once more", l.Close())
	checkBalance(t, l, "a", "X", 1, -10)
	checkCash(t, l, "a", -11, 1)
	checkValue(t, l, "a", map[string]int64{"X": 12}, 1)
	booked(t, l, deal{"X", "b", "a", 20, 1, 0, 0})
	second := []api.Booking{{Account: "a", Symbol: "X", Qty: -1, Cash: 20}, {Account: "b", Symbol: "X", Qty: 1, Cash: -20}}
	checkList(t, "the second day, though nobody has any", l.Net(), second...)
	checkBalance(t, l, "a", "X", 0, 10)
	checkErrno(t, "Break", l.Break(3), api.OK)
	checkList(t, "Net behind Break", l.Net())
	checkBalance(t, l, "a", "X", 1, -10)
	checkZeroSum(t, l, l.Close(), "", "a", "b")
}

// TestJ5ADayMayBeGreaterThanABalance goes from one bound to the other within a day.
func TestJ5ADayMayBeGreaterThanABalance(t *testing.T) {
	l := New()
	bookedTimes(t, l, 1000, greatest("X", "a", "b"))
	l.Close()
	bookedTimes(t, l, 2000, greatest("X", "b", "a"))
	checkList(t, "Net", l.Net(), api.Booking{Account: "a", Symbol: "X", Qty: -2000 * api.MaxQty, Cash: 2 * most}, api.Booking{Account: "b", Symbol: "X", Qty: 2000 * api.MaxQty, Cash: -2 * most})
	checkBalance(t, l, "a", "X", -1000*api.MaxQty, most)
	refused(t, "beyond", l, deal{"X", "b", "a", 1, 1, 0, 0}, api.ErrGreat)
}

func TestJ5TheNetsOfAllDaysAreTheBalances(t *testing.T) {
	l := New()
	sums := map[[2]string]api.Booking{}
	for day := range 20 {
		for i := range day {
			booked(t, l, deal{string(rune('X' + i%3)), string(rune('a' + day%4)), string(rune('a' + i%5)), int64(i + 1), int64(day + 1), int64(i - 4), int64(day - 9)})
		}
		if day%3 == 1 {
			checkErrno(t, "Break", l.Break(len(l.broken)), api.OK)
		}
		for _, b := range l.Close() {
			s := sums[[2]string{b.Account, b.Symbol}]
			sums[[2]string{b.Account, b.Symbol}] = api.Booking{Qty: s.Qty + b.Qty, Cash: s.Cash + b.Cash, Fee: s.Fee + b.Fee}
		}
	}
	for _, account := range []string{"", "a", "b", "c", "d", "e", "f"} {
		var cash, fees int64
		for _, symbol := range []string{"X", "Y", "Z"} {
			s := sums[[2]string{account, symbol}]
			checkBalance(t, l, account, symbol, s.Qty, s.Cash)
			cash += s.Cash
			fees += s.Fee
		}
		checkCash(t, l, account, cash-fees, fees)
	}
}

func TestJ5ListsAreTheCallers(t *testing.T) {
	l := New()
	booked(t, l, deal{"X", "a", "b", 10, 1, 1, 2})
	was := state(l)
	for _, list := range [][]api.Booking{l.Net(), l.Net()} {
		for i := range list {
			list[i] = api.Booking{Account: "z", Qty: 99}
		}
		_ = append(list, api.Booking{Account: "y"}, api.Booking{Account: "x"})
	}
	if now := state(l); now != was {
		t.Errorf("changed from\n%s\nto\n%s", was, now)
	}
	a, b := l.Net(), l.Close()
	a[0].Account = "z"
	checkList(t, "Close", b, api.Booking{Symbol: "X", Fee: -3}, api.Booking{Account: "a", Symbol: "X", Qty: 1, Cash: -10, Fee: 1}, api.Booking{Account: "b", Symbol: "X", Qty: -1, Cash: 10, Fee: 2})
}

func TestJ6Value(t *testing.T) {
	l := New()
	booked(t, l, deal{"X", "a", "b", 100, 10, 3, -1}, deal{"Y", "b", "a", 50, 4, 2, 1}, deal{"", "a", "", 7, 5, 0, 0})
	money := int64(-1003 + 199 - 35)
	for _, c := range []struct {
		prices map[string]int64
		want   int64
	}{
		{nil, money},
		{map[string]int64{}, money},
		{map[string]int64{"Z": 1000, "x": 5}, money},
		{map[string]int64{"X": 110}, money + 1100},
		{map[string]int64{"X": 0, "Y": 0, "": 0}, money},
		{map[string]int64{"Y": 60, "Z": 3}, money - 240},
		{map[string]int64{"X": 110, "Y": 60, "": 9}, money + 1100 - 240 + 45},
		{map[string]int64{"X": -110, "Y": -60}, money - 1100 + 240},
	} {
		was := maps.Clone(c.prices)
		checkValue(t, l, "a", c.prices, c.want)
		if !maps.Equal(was, c.prices) {
			t.Errorf("prices changed from %v to %v", was, c.prices)
		}
	}
	checkValue(t, l, "b", map[string]int64{"X": 110, "Y": 60}, 1001-202-1100+240)
	checkValue(t, l, "", map[string]int64{"X": 110, "Y": 60, "": 100}, 2+3+35-500)
	checkValue(t, l, "nobody", map[string]int64{"X": 110, "Y": 60, "": 100}, 0)
	l.Close()
	checkValue(t, l, "a", map[string]int64{"X": 110}, money+1100)
	checkErrno(t, "of a day that is closed", l.Break(1), api.ErrState)
}

func TestJ6ValueWrapsRound(t *testing.T) {
	l := New()
	booked(t, l, deal{"X", "a", "b", 1, 3, 0, 0}, deal{"Y", "a", "b", 1, 1, 0, 0})
	for _, c := range []struct{ x, y, want int64 }{
		{math.MaxInt64, 0, math.MaxInt64 - 2 - 4}, // three times 2^63-1 is 2^63-3 and twice 2^63
		{math.MinInt64, 0, math.MaxInt64 - 3},
		{math.MinInt64, math.MinInt64, -4},
		{0, math.MaxInt64, math.MaxInt64 - 4},
		{0, math.MinInt64 + 3, math.MaxInt64},
		{1 << 62, 1 << 62, -4},
		{1 << 61, -3 << 61, -4},
	} {
		checkValue(t, l, "a", map[string]int64{"X": c.x, "Y": c.y}, c.want)
	}
}

// TestKeepsNoMoreThanIsNeeded: what came to nothing has no line, and of a closed day only is kept whether its trades were taken back.
func TestKeepsNoMoreThanIsNeeded(t *testing.T) {
	l := New()
	for i := range 100 {
		booked(t, l, deal{fmt.Sprint(i), fmt.Sprint("a", i), fmt.Sprint("b", i), 1, 1, 1, 1})
		checkErrno(t, "Break", l.Break(2*i+1), api.OK)
		booked(t, l, deal{fmt.Sprint(i), "a", "a", 1, 1, 0, 0})
		l.Balance(fmt.Sprint("c", i), "X")
		l.Cash(fmt.Sprint("c", i))
		l.Value(fmt.Sprint("c", i), map[string]int64{fmt.Sprint(i): 5})
	}
	if len(l.all) != 0 || len(l.today) != 0 || len(l.totals) != 0 {
		t.Errorf("%d lines, %d of today, %d accounts are kept", len(l.all), len(l.today), len(l.totals))
	}
	l.Close()
	if len(l.trades) != 0 || len(l.broken) != 200 {
		t.Errorf("%d trades of today, %d of all", len(l.trades), len(l.broken))
	}
}

// TestLedgersAtOnce has many at once: what one is told changes nothing for another one.
func TestLedgersAtOnce(t *testing.T) {
	var all sync.WaitGroup
	for n := range 16 {
		all.Go(func() {
			l := New()
			for i := range 200 {
				if e := l.Trade("X", "a", "b", int64(n+1), 1, 1, 0); e != api.OK {
					t.Errorf("ledger %d, step %d: %d", n, i, e)
				}
				if q, c := l.Balance("a", "X"); q != int64(i+1) || c != -int64((n+1)*(i+1)) {
					t.Errorf("ledger %d, step %d: %d, %d", n, i, q, c)
				}
			}
			if len(l.Close()) != 3 || len(l.Net()) != 0 {
				t.Errorf("ledger %d: Close", n)
			}
		})
	}
	all.Wait()
}

// TestAnyArguments goes through wild numbers and texts: nothing panics, and what is refused changes nothing.
func TestAnyArguments(t *testing.T) {
	numbers := []int64{math.MinInt64, -most, -greatFee - 1, -greatFee, -1, 0, 1, 2, api.MaxQty, api.MaxQty + 1, api.MaxPrice, api.MaxPrice + 1, greatFee, greatFee + 1, most, math.MaxInt64}
	texts := []string{"", "a", "X", "\xff"}
	l := New()
	number := 0
	for i, n := range numbers {
		for j, m := range numbers {
			for k, x := range numbers {
				d := deal{texts[i%4], texts[j%4], texts[k%4], n, m, x, numbers[(i+j+k)%len(numbers)]}
				was := state(l)
				if d.in(l) == api.OK {
					number++
					continue
				}
				if state(l) != was {
					t.Fatalf("%+v changed something", d)
				}
			}
		}
		if e := l.Break(int(n)); e != api.ErrNone && (n < 1 || n > int64(number)) {
			t.Errorf("Break(%d) of %d: %d", n, number, e)
		}
		l.Value(texts[i%4], map[string]int64{texts[0]: n, texts[1]: n, texts[2]: n, texts[3]: n})
		checkZeroSum(t, l, l.Net(), texts...)
		if i%5 == 4 {
			l.Close()
		}
	}
}
