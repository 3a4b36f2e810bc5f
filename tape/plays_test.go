package tape

import (
	"bytes"
	"fmt"
	"math/rand"
	"slices"
	"testing"

	"outcry/api"
	"outcry/clock"
	"outcry/engine"
)

// P12 of DOC.md, as far as the tape reaches: an engine that is played the commands of a tape is as the one that did them, whatever the number of workers.

const (
	aMinute = 60000
	aDay    = 1440 * aMinute
	monday  = 1709510400000 // 20240304
)

func symbols() []string { return []string{"ABC", "XY"} }

func newEngine(t *testing.T) *engine.Engine {
	t.Helper()
	c, e := clock.NewCalendar(20240306)
	if e != api.OK {
		t.Fatal(e)
	}
	var list []api.Instrument
	for _, symbol := range symbols() {
		list = append(list, api.Instrument{
			Symbol: symbol, Lot: 1, Most: api.MaxQty, Steps: []api.Step{{From: 0, Tick: 1}}, Reference: 1000,
			Turns: []api.Turn{{Minute: 480, Phase: api.PreOpen}, {Minute: 540, Phase: api.Trading}, {Minute: 1000, Phase: api.Closing}, {Minute: 1010, Phase: api.Closed}},
		})
	}
	x, e := engine.New(list, []api.Account{{Name: "A1"}, {Name: "A2"}, {Name: "A3"}}, c)
	if e != api.OK {
		t.Fatal(e)
	}
	return x
}

// randomDay makes commands up, of all kinds, over some days.
func randomDay(r *rand.Rand, many int) []api.Command {
	var l []api.Command
	at := int64(monday + 485*aMinute)
	for n := range many {
		c := api.Command{Kind: api.DoNew, Time: at, Owner: 1 + r.Intn(2)}
		account := []string{"A1", "A2", "A3"}[r.Intn(3)]
		o := api.Order{Name: fmt.Sprint("o", n), Account: account, Symbol: symbols()[r.Intn(2)], Side: 1 + r.Intn(2), Type: api.Limit, Life: []int{api.Day, api.Day, api.GTC, api.GTC, api.IOC, api.FOK, api.PostOnly, api.AtOpen}[r.Intn(8)], Price: 990 + r.Int63n(20), Qty: 1 + r.Int63n(500)}
		newest := fmt.Sprint("o", n-1-r.Intn(12))
		switch r.Intn(30) {
		case 0:
			c.Kind, c.Name = api.DoCancel, newest
		case 1, 2:
			c.Kind, c.Name, c.O = api.DoReplace, newest, api.Order{Name: o.Name, Price: o.Price, Qty: o.Qty}
		case 3:
			c.Kind, c.O = api.DoMass, api.Order{Name: o.Name, Side: r.Intn(3), Symbol: o.Symbol, Account: account}
		case 4:
			c.Kind = api.DoTime
		case 5:
			c.Kind, c.O.Symbol = []int{api.DoHalt, api.DoResume, api.DoResume, api.DoResume}[r.Intn(4)], o.Symbol
		case 6:
			c.Kind, c.Account.Name, c.O.Side = api.DoKill, account, r.Intn(8)
		case 7:
			c.Kind, c.Account = api.DoLimits, api.Account{Name: account, Order: 1000000 + r.Int63n(1000000), Position: r.Int63n(2) * 50000, Burst: 5, Per: 100}
		case 8, 9:
			o.Type, o.Life, o.Stop = api.StopLimit, api.Day, o.Price
			c.O = o
		default:
			if r.Intn(8) == 0 {
				o.Show = 1 + r.Int63n(o.Qty)
			}
			c.O = o
		}
		l = append(l, c)
		at += r.Int63n(2 * aMinute)
		if at%aDay > 1015*aMinute {
			at += aDay - at%aDay + 485*aMinute
		}
	}
	return l
}

// depths is all levels of all books.
func depths(t *testing.T, x *engine.Engine) string {
	t.Helper()
	s := fmt.Sprint(x.Now())
	for _, symbol := range symbols() {
		for _, side := range []int{api.Buy, api.Sell} {
			l, e := x.Depth(symbol, side)
			phase, reference, _ := x.Phase(symbol)
			s += fmt.Sprintln(symbol, side, l, e, phase, reference)
		}
	}
	return s
}

// commands gives all commands of a tape, one by one.
func commands(t *testing.T, a *Tape) []api.Command {
	t.Helper()
	var l []api.Command
	for i := range a.Len() {
		c, e := a.Command(i)
		if e != api.OK {
			t.Fatalf("Command(%d): %d", i, e)
		}
		l = append(l, c)
	}
	return l
}

func sameEvents(a, b [][]api.Event) bool {
	return slices.EqualFunc(a, b, func(x, y []api.Event) bool { return slices.Equal(x, y) })
}

// TestP12PlayedAgain plays the tape of some days, and lets another day follow.
func TestP12PlayedAgain(t *testing.T) {
	trades, kinds := 0, map[int]int{}
	for seed := range int64(16) {
		all := randomDay(rand.New(rand.NewSource(seed)), 600)
		l, later := all[:400], all[400:]
		x, a := newEngine(t), New()
		var told [][]api.Event
		for _, c := range l {
			appended(t, a, c)
			told = append(told, x.Do(c))
			kinds[c.Kind]++
			for _, y := range told[len(told)-1] {
				if y.Kind == api.EvTrade {
					trades++
				}
			}
		}
		then := depths(t, x)
		follows := x.Run(later, 0)
		o, n, e := Open(a.Bytes())
		if e != api.OK || n != len(a.Bytes()) || !slices.Equal(commands(t, o), l) {
			t.Fatalf("walk %d: %d bytes, %d", seed, n, e)
		}
		for _, workers := range []int{0, 1, 2, 3, 8, 16} {
			y := newEngine(t)
			if got := y.Run(commands(t, o), workers); !sameEvents(got, told) || depths(t, y) != then {
				t.Fatalf("walk %d, %d workers: played again it is another one", seed, workers)
			}
			if !sameEvents(y.Run(later, workers), follows) || depths(t, y) != depths(t, x) {
				t.Fatalf("walk %d, %d workers: it goes on as another one", seed, workers)
			}
		}
	}
	for kind := api.DoNew; kind <= api.DoLimits; kind++ {
		if kinds[kind] < 30 {
			t.Errorf("only %d commands of the kind %d", kinds[kind], kind)
		}
	}
	if trades < 1000 {
		t.Errorf("only %d trades", trades)
	}
}

// TestP12BeginningsPlayed plays tapes that end within a record: it is as if what was cut had not been done, and can be done then.
func TestP12BeginningsPlayed(t *testing.T) {
	r := rand.New(rand.NewSource(12))
	l := randomDay(r, 300)
	b := chapterTape(l...)
	told := newEngine(t).Run(l, 0)
	for range 60 {
		o, n, e := Open(b[:4+r.Intn(len(b)-3)])
		if e != api.OK || !bytes.Equal(o.Bytes(), b[:n]) {
			t.Fatalf("%d bytes, %d", n, e)
		}
		x := newEngine(t)
		done := o.Len()
		if !sameEvents(x.Run(commands(t, o), 0), told[:done]) {
			t.Fatalf("%d commands: another one", done)
		}
		appended(t, o, l[done:]...)
		if !sameEvents(x.Run(l[done:], 4), told[done:]) || !bytes.Equal(o.Bytes(), b) {
			t.Fatalf("behind %d commands: another one", done)
		}
	}
}

// TestP12TheDocumentsExample: of DOC.md's examples 2, 3 and 6.
func TestP12TheDocumentsExample(t *testing.T) {
	at := int64(monday + 550*aMinute)
	a := New()
	appended(t, a,
		api.Command{Kind: api.DoTime, Time: at},
		api.Command{Kind: api.DoNew, Time: at, Owner: 1, O: api.Order{Name: "s", Account: "A1", Symbol: "ABC", Side: api.Sell, Type: api.Limit, Life: api.Day, Price: 1000, Qty: 10}},
		api.Command{Kind: api.DoNew, Time: at, Owner: 2, O: api.Order{Name: "b", Account: "A2", Symbol: "ABC", Side: api.Buy, Type: api.Limit, Life: api.Day, Price: 1001, Qty: 4}},
	)
	b := a.Bytes()
	for less, left := range map[int]int64{0: 6, 3: 10} {
		o, _, _ := Open(b[:len(b)-less])
		x := newEngine(t)
		x.Run(commands(t, o), 0)
		if l, _ := x.Depth("ABC", api.Sell); !slices.Equal(l, []api.Level{{Price: 1000, Qty: left, Orders: 1}}) {
			t.Errorf("without %d bytes: %v", less, l)
		}
	}
}
