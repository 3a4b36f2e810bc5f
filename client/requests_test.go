package client

import (
	"fmt"
	"math"
	"slices"
	"strings"
	"testing"

	"outcry/api"
	"outcry/framer"
)

// TestC3Order: whatever order may be is sent, and known with what was asked for.
func TestC3Order(t *testing.T) {
	eachKind(t, func(t *testing.T, kind int) {
		d := start(t, kind)
		longest := strings.Repeat("z", api.MaxID)
		l := []api.Msg{
			newOrder("o"),
			{Kind: api.NewOrder, ID: longest, Account: "A", Symbol: "X", Side: api.Buy, Type: api.Market, Life: api.IOC, Qty: 1},
			{Kind: api.NewOrder, ID: "-", Account: "A", Symbol: "X", Side: api.Buy, Type: api.StopLimit, Life: api.GTD, Price: 1, Stop: api.MaxPrice, Qty: api.MaxQty, Show: 5, Least: 7, Until: 20240105},
		}
		for _, m := range l {
			expect(t, "Order "+m.ID, d.Order(m, d.now), api.OK)
		}
		d.knows(api.View{Name: "-", Left: api.MaxQty}, api.View{Name: "o", Left: 100}, api.View{Name: longest, Left: 1})
		d.reported()
		d.goesOut(l...)
	})
}

// TestC3Signed: what the session puts into a message is not the caller's.
func TestC3Signed(t *testing.T) {
	d := start(t, framer.Text)
	m := newOrder("o")
	m.Sender, m.Target, m.Seq, m.Dup, m.Time, m.OrigTime = "x", "", -5, true, -1, 9
	expect(t, "Order", d.Order(m, d.now), api.OK)
	d.knows(fresh("o"))
	d.goesOut(newOrder("o"))
}

// TestC3Apart: without a connection an order is known, and sent as soon as it is asked for.
func TestC3Apart(t *testing.T) {
	eachKind(t, func(t *testing.T, kind int) {
		d := newDesk(t, kind)
		d.sends("early")
		expect(t, "Replace", d.Replace("early", "r", 0, 5, d.now), api.OK)
		expect(t, "Cancel", d.Cancel("early", "c", d.now), api.OK)
		d.knows(fresh("early"))
		d.goesOut()
		d.out = 3
		d.logsOn()
		d.goesOut()
		d.says(api.Msg{Kind: api.ResendRequest, Begin: 1, End: 3})
		again := func(m *api.Msg) { m.Dup, m.OrigTime = true, d.now }
		d.goesOut(
			with(newOrder("early"), again),
			with(api.Msg{Kind: api.ReplaceOrder, ID: "r", OrigID: "early", Symbol: "ABC", Side: api.Sell, Qty: 5}, again),
			with(api.Msg{Kind: api.CancelOrder, ID: "c", OrigID: "early", Symbol: "ABC", Side: api.Sell}, again),
		)
	})
}

// nothing holds that a refused call has changed nothing; what was used before is told by names.
func (d *desk) nothing(what string, got, want api.Errno, before string) {
	d.t.Helper()
	expect(d.t, what, got, want)
	if now := all(d.Client); now != before {
		d.t.Errorf("%s: %s, before %s", what, now, before)
	}
}

func TestC3Refused(t *testing.T) {
	eachKind(t, func(t *testing.T, kind int) {
		d := start(t, kind)
		d.sends("used")
		before := all(d.Client)
		far := d.now + minute
		for n, x := range []struct {
			m    api.Msg
			now  int64
			want api.Errno
		}{
			{api.Msg{}, far, api.ErrKind},
			{with(newOrder("x"), func(m *api.Msg) { m.Kind = 18 }), far, api.ErrKind},
			{with(newOrder("x"), func(m *api.Msg) { m.Kind = -1 }), far, api.ErrKind},
			{with(newOrder("used"), func(m *api.Msg) { m.Kind = api.Execution }), -1, api.ErrKind},
			{newOrder("used"), far, api.ErrKnown},
			{newOrder("used"), -1, api.ErrKnown},
			{with(newOrder("used"), func(m *api.Msg) { m.Side = 3 }), far, api.ErrKnown},
			{newOrder("x"), -1, api.ErrArg},
			{newOrder("x"), tooLate, api.ErrArg},
			{with(newOrder("x"), func(m *api.Msg) { m.Side = 3 }), math.MinInt64, api.ErrArg},
			{with(newOrder("x"), func(m *api.Msg) { m.Side = 3 }), far, api.ErrField},
			{with(newOrder("x"), func(m *api.Msg) { m.Price = 0 }), far, api.ErrField},
			{with(newOrder("x"), func(m *api.Msg) { m.Qty = api.MaxQty + 1 }), far, api.ErrField},
			{with(newOrder("x"), func(m *api.Msg) { m.Qty = -1 }), far, api.ErrField},
			{with(newOrder("x"), func(m *api.Msg) { m.OrigID = "used" }), far, api.ErrExtra},
			{newOrder(""), far, api.ErrField},
			{newOrder("a b"), far, api.ErrField},
			{newOrder(strings.Repeat("z", api.MaxID+1)), far, api.ErrField},
			{newOrder("\xff"), far, api.ErrField},
		} {
			d.nothing(fmt.Sprintf("Order %d", n), d.Order(x.m, x.now), x.want, before)
		}
		for _, m := range kinds() {
			if m.Kind != api.NewOrder {
				d.nothing(fmt.Sprintf("Order of the kind %d", m.Kind), d.Order(m, far), api.ErrKind, before)
			}
		}
		d.sends("x") // a refused order has not used it, and has let no time go by
		d.goesOut(newOrder("used"), newOrder("x"))
	})
}

func TestC4(t *testing.T) {
	eachKind(t, func(t *testing.T, kind int) {
		d := start(t, kind)
		bought := with(newOrder("b"), func(m *api.Msg) { m.Symbol, m.Side = "XYZ", api.Buy })
		expect(t, "Order", d.Order(bought, d.now), api.OK)
		d.sends("a")
		d.goesOut(bought, newOrder("a"))
		expect(t, "Cancel", d.Cancel("a", "c1", d.now), api.OK)
		expect(t, "Cancel", d.Cancel("b", "c2", d.now), api.OK)
		expect(t, "Cancel again", d.Cancel("b", "c3", d.now), api.OK)
		expect(t, "Replace", d.Replace("a", "r1", 16000, 90, d.now), api.OK)
		expect(t, "Replace without a price", d.Replace("b", "r2", 0, api.MaxQty, d.now), api.OK)
		d.knows(fresh("a"), fresh("b"))
		d.goesOut(
			api.Msg{Kind: api.CancelOrder, ID: "c1", OrigID: "a", Symbol: "ABC", Side: api.Sell},
			api.Msg{Kind: api.CancelOrder, ID: "c2", OrigID: "b", Symbol: "XYZ", Side: api.Buy},
			api.Msg{Kind: api.CancelOrder, ID: "c3", OrigID: "b", Symbol: "XYZ", Side: api.Buy},
			api.Msg{Kind: api.ReplaceOrder, ID: "r1", OrigID: "a", Symbol: "ABC", Side: api.Sell, Price: 16000, Qty: 90},
			api.Msg{Kind: api.ReplaceOrder, ID: "r2", OrigID: "b", Symbol: "XYZ", Side: api.Buy, Qty: api.MaxQty},
		)
		before := all(d.Client)
		for _, name := range []string{"a", "b", "c1", "c2", "c3", "r1", "r2"} {
			d.nothing("Order of "+name, d.Order(newOrder(name), d.now), api.ErrKnown, before)
			d.nothing("Cancel by "+name, d.Cancel("a", name, d.now), api.ErrKnown, before)
			d.nothing("Replace by "+name, d.Replace("b", name, 5, 5, d.now), api.ErrKnown, before)
		}
	})
}

func TestC4Refused(t *testing.T) {
	eachKind(t, func(t *testing.T, kind int) {
		d := start(t, kind)
		d.sends("a")
		expect(t, "Cancel", d.Cancel("a", "used", d.now), api.OK)
		before := all(d.Client)
		far := d.now + minute
		for n, x := range []struct {
			name, fresh string
			now         int64
			want        api.Errno
		}{
			{"none", "x", far, api.ErrNone},
			{"", "x", far, api.ErrNone},
			{"used", "x", far, api.ErrNone}, // a request is no order
			{"A", "x", far, api.ErrNone},
			{"none", "a", far, api.ErrNone},
			{"none", "", -1, api.ErrNone},
			{"a", "a", far, api.ErrKnown},
			{"a", "used", far, api.ErrKnown},
			{"a", "used", -1, api.ErrKnown},
			{"a", "x", -1, api.ErrArg},
			{"a", "", tooLate, api.ErrArg},
			{"a", "", far, api.ErrField},
			{"a", "a b", far, api.ErrField},
			{"a", strings.Repeat("z", api.MaxID+1), far, api.ErrField},
		} {
			d.nothing(fmt.Sprintf("Cancel %d", n), d.Cancel(x.name, x.fresh, x.now), x.want, before)
			d.nothing(fmt.Sprintf("Replace %d", n), d.Replace(x.name, x.fresh, 5, 5, x.now), x.want, before)
		}
		for _, x := range [][2]int64{{5, 0}, {5, -1}, {5, api.MaxQty + 1}, {-1, 5}, {api.MaxPrice + 1, 5}, {math.MinInt64, math.MaxInt64}} {
			d.nothing(fmt.Sprintf("Replace to %v", x), d.Replace("a", "x", x[0], x[1], far), api.ErrField, before)
			d.nothing(fmt.Sprintf("Replace to %v, at no time", x), d.Replace("a", "x", x[0], x[1], -1), api.ErrArg, before)
			d.nothing(fmt.Sprintf("Replace of none to %v", x), d.Replace("none", "x", x[0], x[1], far), api.ErrNone, before)
		}
		expect(t, "Cancel", d.Cancel("a", "x", d.now), api.OK)
		d.goesOut(newOrder("a"),
			api.Msg{Kind: api.CancelOrder, ID: "used", OrigID: "a", Symbol: "ABC", Side: api.Sell},
			api.Msg{Kind: api.CancelOrder, ID: "x", OrigID: "a", Symbol: "ABC", Side: api.Sell})
	})
}

// TestC4Gone: also of an order that is done one may ask; the peer will tell.
func TestC4Gone(t *testing.T) {
	d := start(t, framer.Binary)
	d.sends("a")
	d.says(happened("a", 4, 4, 0, 0))
	expect(t, "Cancel", d.Cancel("a", "c", d.now), api.OK)
	expect(t, "Replace", d.Replace("a", "r", 1, 1, d.now), api.OK)
	d.knows(api.View{Name: "a", OrderID: 7, State: 4})
}

// TestMany: so many names can be used, by orders, requests and reports together, and no more.
func TestMany(t *testing.T) {
	for _, reports := range []bool{false, true} {
		d := start(t, framer.Binary)
		d.sends("first")
		used := []string{"first"}
		for n := 1; n < api.MaxNames-1; n++ {
			name := fmt.Sprint("n", n)
			var e api.Errno
			switch n % 3 {
			case 0:
				e = d.Order(newOrder(name), d.now)
			case 1:
				e = d.Cancel("first", name, d.now)
			case 2:
				e = d.Replace("first", name, 5, 5, d.now)
			}
			if e != api.OK {
				t.Fatalf("name %d: %d", n, e)
			}
			used = append(used, name)
		}
		d.Out()
		now := "first"
		if reports {
			d.says(renamed("first", "second", 100, 0))
			now = "second"
			used = append(used, now)
		} else {
			d.sends("second")
			used = append(used, "second")
		}
		d.full(now, used)
		// Another one by a report: there are more than can be used then.
		d.says(renamed(now, "third", 100, 0))
		d.full("third", append(used, "third"))
	}
}

// full holds that no more names can be used, by requests about the order of a name.
func (d *desk) full(name string, used []string) {
	d.t.Helper()
	d.Reports()
	before := all(d.Client)
	if n := len(used); n < api.MaxNames {
		d.t.Fatalf("%d are used", n)
	}
	far := d.now + minute
	d.nothing("Order", d.Order(newOrder("x"), far), api.ErrMany, before)
	d.nothing("Cancel", d.Cancel(name, "x", far), api.ErrMany, before)
	d.nothing("Replace", d.Replace(name, "x", 5, 5, far), api.ErrMany, before)
	d.nothing("Order that may not be, at no time", d.Order(with(newOrder("x"), func(m *api.Msg) { m.Side = 3 }), -1), api.ErrMany, before)
	d.nothing("Order without a name", d.Order(newOrder(""), far), api.ErrMany, before)
	d.nothing("Cancel that may not be, at no time", d.Cancel(name, "", -1), api.ErrMany, before)
	d.nothing("Replace that may not be, at no time", d.Replace(name, "", -1, -1, -1), api.ErrMany, before)
	d.nothing("Cancel of none", d.Cancel("none", "x", far), api.ErrNone, before)
	d.nothing("Replace of none", d.Replace("none", "x", 5, 5, far), api.ErrNone, before)
	d.nothing("no order", d.Order(with(newOrder("x"), func(m *api.Msg) { m.Kind = api.CancelOrder }), far), api.ErrKind, before)
	for _, u := range slices.Concat(used[:20], used[len(used)-20:]) {
		d.nothing("Order of "+u, d.Order(newOrder(u), far), api.ErrKnown, before)
		d.nothing("Cancel by "+u, d.Cancel(name, u, far), api.ErrKnown, before)
	}
}
