package client

import (
	"fmt"
	"math"
	"slices"
	"testing"

	"outcry/api"
	"outcry/framer"
)

// TestC5Views: what an Execution says of an order is what is known of it, whatever has happened, also where it says 0.
func TestC5Views(t *testing.T) {
	eachKind(t, func(t *testing.T, kind int) {
		d := start(t, kind)
		d.sends("o", "other")
		worth := int64(0)
		var said []api.Msg
		for n := range 200 {
			m := happened("o", 1+n%8, 1+n%6, int64(n%7), int64(n%5))
			m.OrderID = n % 4
			if m.Exec == 3 {
				m.LastPrice, m.LastQty = int64(1+n), int64(1+n%9)
				worth += m.LastPrice * m.LastQty
			}
			said = append(said, d.says(m)...)
			d.knows(api.View{Name: "o", OrderID: m.OrderID, State: m.State, Left: m.Left, Done: m.Done, Value: worth}, fresh("other"))
		}
		d.reported(said...)
	})
}

// TestC5NoViews: nothing but an Execution of an order that is known says anything of one.
func TestC5NoViews(t *testing.T) {
	eachKind(t, func(t *testing.T, kind int) {
		d := start(t, kind)
		d.sends("o")
		expect(t, "Cancel", d.Cancel("o", "c", d.now), api.OK)
		d.Out()
		var said []api.Msg
		for _, m := range slices.Concat(kinds()[api.NewOrder-1:], []api.Msg{trade("c", 3, 0, 100, 100, 5), happened("O", 4, 4, 0, 0), happened("o1", 4, 4, 0, 0)}) {
			if m.Kind != api.Execution || m.ID != "o" {
				said = append(said, d.says(m)...)
			}
		}
		d.knows(fresh("o"))
		d.reported(said...)
		expect(t, "Order of a name that only reports had", d.Order(newOrder("o1"), d.now), api.OK)
	})
}

// TestC5Renamed: when an order gets another name, and when not.
func TestC5Renamed(t *testing.T) {
	known := func(name string, left int64) api.View {
		return api.View{Name: name, OrderID: 7, State: 1, Left: left}
	}
	eachKind(t, func(t *testing.T, kind int) {
		for _, x := range []struct {
			what string
			m    api.Msg
			want []api.View
			used []string
			free []string
		}{
			{"a name that nobody has", renamed("a", "new", 50, 0), []api.View{fresh("b"), known("new", 50)}, []string{"a", "b", "c", "new"}, []string{"x"}},
			{"the name of a request", renamed("a", "c", 50, 0), []api.View{fresh("b"), known("c", 50)}, []string{"a", "b", "c"}, []string{"new"}},
			{"another order's name", renamed("a", "b", 50, 0), []api.View{fresh("a"), known("b", 50)}, []string{"a", "b", "c"}, nil},
			{"its own name", renamed("a", "a", 50, 0), []api.View{known("a", 50), fresh("b")}, []string{"a", "b", "c"}, nil},
			{"of none", renamed("none", "new", 50, 0), []api.View{fresh("a"), fresh("b")}, []string{"a", "b", "c"}, []string{"new", "none"}},
			{"of a request", renamed("c", "new", 50, 0), []api.View{fresh("a"), fresh("b")}, []string{"a", "b", "c"}, []string{"new"}},
			{"of none, another order's name", renamed("none", "b", 50, 0), []api.View{fresh("a"), known("b", 50)}, []string{"a", "b", "c"}, []string{"none"}},
			{"of none, and none is told", happened("new", 5, 1, 50, 0), []api.View{fresh("a"), fresh("b")}, []string{"a", "b", "c"}, []string{"new"}},
			{"an order's, and none is told", happened("a", 5, 1, 50, 0), []api.View{known("a", 50), fresh("b")}, []string{"a", "b", "c"}, []string{"new"}},
		} {
			d := start(t, kind)
			d.sends("a", "b")
			expect(t, "Cancel", d.Cancel("a", "c", d.now), api.OK)
			d.reported(d.says(x.m)...)
			d.knows(x.want...)
			for _, name := range x.used {
				expect(t, x.what+": Order of "+name, d.Order(newOrder(name), d.now), api.ErrKnown)
			}
			for _, name := range x.free {
				expect(t, x.what+": Order of "+name, d.Order(newOrder(name), d.now), api.OK)
			}
		}
	})
}

// TestC5OnlyReplaced: whatever else has happened, an OrigID gives nobody another name.
func TestC5OnlyReplaced(t *testing.T) {
	eachKind(t, func(t *testing.T, kind int) {
		d := start(t, kind)
		d.sends("a")
		for exec := 1; exec <= 8; exec++ {
			if exec == 5 {
				continue
			}
			m := happened("new", exec, 1, 50, 0)
			m.OrigID = "a"
			if exec == 3 {
				m.LastPrice, m.LastQty = 5, 5
			}
			d.says(m)
		}
		d.knows(fresh("a"))
		d.sends("new")
	})
}

// TestC5RenamedOrder: an order stays what it is under another name, and is known by that alone.
func TestC5RenamedOrder(t *testing.T) {
	eachKind(t, func(t *testing.T, kind int) {
		d := start(t, kind)
		expect(t, "Order", d.Order(with(newOrder("a"), func(m *api.Msg) { m.Symbol, m.Side = "XYZ", api.Buy }), d.now), api.OK)
		d.Out()
		d.out++
		d.says(trade("a", 2, 60, 40, 40, 15000), renamed("a", "b", 10, 40))
		d.knows(api.View{Name: "b", OrderID: 7, State: 1, Left: 10, Done: 40, Value: 600000})
		d.says(happened("a", 4, 4, 0, 40))
		d.knows(api.View{Name: "b", OrderID: 7, State: 1, Left: 10, Done: 40, Value: 600000})
		expect(t, "Cancel of a", d.Cancel("a", "c", d.now), api.ErrNone)
		expect(t, "Replace of a", d.Replace("a", "c", 1, 1, d.now), api.ErrNone)
		expect(t, "Cancel of b", d.Cancel("b", "c", d.now), api.OK)
		expect(t, "Replace of b", d.Replace("b", "r", 1, 2, d.now), api.OK)
		d.goesOut( // by the order's own Symbol and Side, not by what reports say
			api.Msg{Kind: api.CancelOrder, ID: "c", OrigID: "b", Symbol: "XYZ", Side: api.Buy},
			api.Msg{Kind: api.ReplaceOrder, ID: "r", OrigID: "b", Symbol: "XYZ", Side: api.Buy, Price: 1, Qty: 2},
		)
		d.says(renamed("b", "r", 2, 40), trade("r", 3, 0, 42, 2, 10000))
		d.knows(api.View{Name: "r", OrderID: 7, State: 3, Done: 42, Value: 620000})
		d.says(renamed("r", "a", 5, 42)) // back to a name that nobody has any more
		d.knows(api.View{Name: "a", OrderID: 7, State: 1, Left: 5, Done: 42, Value: 620000})
		for _, name := range []string{"a", "b", "c", "r"} {
			expect(t, "Order of "+name, d.Order(newOrder(name), d.now), api.ErrKnown)
		}
	})
}

// TestC5Value: what trades were worth is summed up as far as 64 bits go; a trade that goes beyond them leaves it.
func TestC5Value(t *testing.T) {
	d := start(t, framer.Binary)
	d.sends("o", "other")
	worth := func() int64 { return d.Orders()[0].Value }
	add := func(qty, price int64) {
		d.says(trade("o", 2, 1, 1, qty, price))
	}
	const greatest = api.MaxPrice * api.MaxQty // of one trade
	for range math.MaxInt64 / greatest {
		add(api.MaxQty, api.MaxPrice)
	}
	if got := worth(); got != math.MaxInt64/greatest*greatest {
		t.Errorf("the value is %d", got)
	}
	add(api.MaxQty, api.MaxPrice)
	if got := worth(); got != math.MaxInt64/greatest*greatest {
		t.Errorf("the value is %d behind one that is too great", got)
	}
	rest := int64(math.MaxInt64 % greatest)
	add(rest/api.MaxPrice, api.MaxPrice)
	add(1, rest%api.MaxPrice)
	if got := worth(); got != math.MaxInt64 {
		t.Errorf("the value is %d, want the greatest there is", got)
	}
	d.says(trade("o", 3, 0, 2, 1, 1))
	if v := d.Orders()[0]; v != (api.View{Name: "o", OrderID: 7, State: 3, Done: 2, Value: math.MaxInt64}) {
		t.Errorf("%+v, behind a trade that goes beyond", v)
	}
	if v := d.Orders()[1]; v != fresh("other") {
		t.Errorf("%+v of another order", v)
	}
}

// TestC7Reports: reports stay until they are taken, over whatever happens meanwhile, and are given once.
func TestC7Reports(t *testing.T) {
	eachKind(t, func(t *testing.T, kind int) {
		d := start(t, kind)
		d.reported()
		var said []api.Msg
		for n := range 5 {
			said = append(said, d.says(happened(fmt.Sprint("o", n), 1, 1, 1, 0))...)
			d.now += second
			d.Tick(d.now)
			d.sends(fmt.Sprint("mine", n))
		}
		d.drops()
		d.logsOn()
		said = append(said, d.says(happened("last", 1, 1, 1, 0))...)
		d.reported(said...)
		d.reported()
		d.reported(d.says(happened("more", 1, 1, 1, 0))...)
	})
}
