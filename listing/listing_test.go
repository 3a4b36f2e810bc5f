package listing

import (
	"fmt"
	"math"
	"math/rand"
	"reflect"
	"slices"
	"strings"
	"sync"
	"testing"
	"time"

	"outcry/api"
	"outcry/clock"
)

// example is the chapter's instrument.
func example() api.Instrument {
	return api.Instrument{
		Symbol: "ABC", Lot: 10, Most: 1000,
		Steps: []api.Step{{From: 0, Tick: 1}, {From: 10000, Tick: 10}},
		Band:  1000, Reference: 10000,
		Turns: []api.Turn{{Minute: 480, Phase: api.PreOpen}, {Minute: 540, Phase: api.Trading}, {Minute: 1020, Phase: api.Closing}, {Minute: 1030, Phase: api.Closed}},
		Maker: -20, Taker: 30,
	}
}

func calendar(t testing.TB, holidays ...int) *clock.Calendar {
	t.Helper()
	c, e := clock.NewCalendar(holidays...)
	if e != api.OK {
		t.Fatalf("NewCalendar(%v): %d", holidays, e)
	}
	return c
}

func listed(t testing.TB, i api.Instrument, holidays ...int) *Listing {
	t.Helper()
	l, e := New(i, calendar(t, holidays...))
	if e != api.OK || l == nil {
		t.Fatalf("New(%+v) = %v, %d", i, l != nil, e)
	}
	return l
}

// changed gives the chapter's instrument with something changed.
func changed(change func(i *api.Instrument)) api.Instrument {
	i := example()
	change(&i)
	return i
}

// withSteps gives an instrument of these steps, whose Reference may be.
func withSteps(steps ...api.Step) api.Instrument {
	i := example()
	i.Steps = steps
	last := steps[len(steps)-1]
	i.Reference = last.From
	if last.From == 0 {
		i.Reference = last.Tick
	}
	return i
}

func expectListed(t *testing.T, may bool, i api.Instrument) {
	t.Helper()
	l, e := New(i, calendar(t))
	if may && (l == nil || e != api.OK) || !may && (l != nil || e != api.ErrListing) {
		t.Errorf("New(%+v) = %v, %d, want %v", i, l != nil, e, may)
	}
	if r := (reading{i: i}); r.mayList() != may {
		t.Errorf("the second reading of %+v is %v", i, !may)
	}
}

func TestL1Calendar(t *testing.T) {
	if l, e := New(example(), nil); l != nil || e != api.ErrArg {
		t.Errorf("New without a calendar = %v, %d", l != nil, e)
	}
	if l, e := New(api.Instrument{}, nil); l != nil || e != api.ErrArg {
		t.Errorf("New of nothing without a calendar = %v, %d: ErrArg goes ahead", l != nil, e)
	}
	if l, e := New(api.Instrument{}, calendar(t)); l != nil || e != api.ErrListing {
		t.Errorf("New of nothing = %v, %d", l != nil, e)
	}
}

func TestL1Symbol(t *testing.T) {
	for _, s := range []string{"A", "Z", "ABC", "A1", "Z9", "ABCDEFGH", "A1234567"} {
		expectListed(t, true, changed(func(i *api.Instrument) { i.Symbol = s }))
	}
	for _, s := range []string{"", "1", "1A", "a", "Abc", "ABCDEFGHI", "A B", "A.", "A-B", " A", "A\x00", "Ä", strings.Repeat("A", 1000)} {
		expectListed(t, false, changed(func(i *api.Instrument) { i.Symbol = s }))
	}
}

func TestL1Lots(t *testing.T) {
	for _, c := range []struct {
		lot, most int64
		may       bool
	}{
		{1, 1, true}, {1, 2, true}, {1, 1000000, true}, {10, 10, true}, {10, 20, true}, {7, 999999, true}, {1000000, 1000000, true}, {500000, 1000000, true},
		{0, 0, false}, {0, 10, false}, {-1, 10, false}, {-10, 1000, false}, {-10, -10, false}, {1, 0, false}, {1, -1, false}, {10, 9, false}, {10, 5, false}, {10, 0, false},
		{10, 15, false}, {10, 1001, false}, {7, 1000000, false}, {1, 1000001, false}, {10, 1000010, false}, {1000001, 1000001, false}, {1000001, 1000000, false},
		{math.MinInt64, 1000, false}, {math.MaxInt64, math.MaxInt64, false}, {1, math.MaxInt64, false}, {1, math.MinInt64, false}, {math.MinInt64, math.MinInt64, false}, {-1, math.MinInt64, false},
		{1<<32 + 10, 1<<32 + 10, false},
	} {
		expectListed(t, c.may, changed(func(i *api.Instrument) { i.Lot, i.Most = c.lot, c.most }))
	}
}

func TestL1Steps(t *testing.T) {
	for _, steps := range [][]api.Step{
		{{From: 0, Tick: 1}},
		{{From: 0, Tick: api.MaxPrice}},
		{{From: 0, Tick: 3}},
		{{From: 0, Tick: 1}, {From: 1, Tick: 1}},
		{{From: 0, Tick: 1}, {From: api.MaxPrice, Tick: 7}},
		{{From: 0, Tick: 1}, {From: api.MaxPrice, Tick: api.MaxPrice}},
		{{From: 0, Tick: api.MaxPrice}, {From: api.MaxPrice, Tick: 1}},
		{{From: 0, Tick: 3}, {From: 9, Tick: 7}, {From: 23, Tick: 5}},
		{{From: 0, Tick: 10}, {From: 10, Tick: 1}, {From: 11, Tick: 10}},
		{{From: 0, Tick: 1}, {From: 1, Tick: 1}, {From: 2, Tick: 1}, {From: 3, Tick: 1}, {From: 4, Tick: 1}, {From: 5, Tick: 1}, {From: 6, Tick: 1}, {From: 7, Tick: 1}},
	} {
		expectListed(t, true, withSteps(steps...))
	}
	for _, steps := range [][]api.Step{
		{},
		{{From: 1, Tick: 1}},
		{{From: -1, Tick: 1}},
		{{From: math.MinInt64, Tick: 1}},
		{{From: 0, Tick: 0}},
		{{From: 0, Tick: -1}},
		{{From: 0, Tick: math.MinInt64}},
		{{From: 0, Tick: api.MaxPrice + 1}},
		{{From: 0, Tick: math.MaxInt64}},
		{{From: 0, Tick: 1}, {From: 0, Tick: 1}},
		{{From: 0, Tick: 1}, {From: -1, Tick: 1}},
		{{From: 0, Tick: 1}, {From: 10, Tick: 0}},
		{{From: 0, Tick: 1}, {From: 10, Tick: -10}},
		{{From: 0, Tick: 1}, {From: 10, Tick: api.MaxPrice + 1}},
		{{From: 0, Tick: 0}, {From: 10, Tick: 1}},
		{{From: 0, Tick: 1}, {From: api.MaxPrice + 1, Tick: 1}},
		{{From: 0, Tick: 1}, {From: math.MaxInt64, Tick: 1}},
		{{From: 0, Tick: 1}, {From: math.MinInt64, Tick: 1}},
		{{From: 0, Tick: 1}, {From: math.MaxInt64, Tick: 1}, {From: math.MinInt64, Tick: 1}},
		{{From: 0, Tick: 3}, {From: 10000, Tick: 1}},
		{{From: 0, Tick: 20000}, {From: 10000, Tick: 1}},
		{{From: 0, Tick: 1}, {From: 10, Tick: 7}, {From: 30, Tick: 1}},
		{{From: 0, Tick: 3}, {From: 9, Tick: 7}, {From: 21, Tick: 5}},
		{{From: 0, Tick: 1}, {From: 20, Tick: 1}, {From: 20, Tick: 1}},
		{{From: 0, Tick: 1}, {From: 20, Tick: 1}, {From: 10, Tick: 1}},
		{{From: 0, Tick: 1}, {From: 1, Tick: 1}, {From: 2, Tick: 1}, {From: 3, Tick: 1}, {From: 4, Tick: 1}, {From: 5, Tick: 1}, {From: 6, Tick: 1}, {From: 7, Tick: 1}, {From: 8, Tick: 1}},
	} {
		for _, reference := range []int64{1, 10, 21, 30, 60, 10000, api.MaxPrice} {
			expectListed(t, false, changed(func(i *api.Instrument) { i.Steps, i.Reference = steps, reference }))
		}
	}
	expectListed(t, false, changed(func(i *api.Instrument) { i.Steps = nil }))
	expectListed(t, false, changed(func(i *api.Instrument) { i.Steps = make([]api.Step, 1<<20) }))
}

// The last step need not be a whole number of its ticks, wherever prices end.
func TestL1LastStep(t *testing.T) {
	expectListed(t, true, changed(func(i *api.Instrument) { i.Steps = []api.Step{{From: 0, Tick: 10}, {From: 10000, Tick: 999999}} }))
}

func TestL1BandAndReference(t *testing.T) {
	for _, band := range []int{0, 1, 5000, 9999, 10000} {
		expectListed(t, true, changed(func(i *api.Instrument) { i.Band = band }))
	}
	for _, band := range []int{-1, -1000, 10001, 1<<32 + 1000, math.MinInt, math.MaxInt} {
		expectListed(t, false, changed(func(i *api.Instrument) { i.Band = band }))
	}
	for _, price := range []int64{1, 2, 9999, 10000, 10010, 999999990, api.MaxPrice} {
		expectListed(t, true, changed(func(i *api.Instrument) { i.Reference = price }))
	}
	for _, price := range []int64{0, -1, -10, 10001, 10009, 10011, 999999999, api.MaxPrice + 1, api.MaxPrice + 10, math.MinInt64, math.MaxInt64, 1<<32 + 10000} {
		expectListed(t, false, changed(func(i *api.Instrument) { i.Reference = price }))
	}
}

func TestL1Turns(t *testing.T) {
	turns := func(l ...api.Turn) api.Instrument {
		return changed(func(i *api.Instrument) { i.Turns = l })
	}
	for phase := -2; phase <= 9; phase++ {
		may := slices.Contains([]int{api.Closed, api.PreOpen, api.Trading, api.Closing}, phase)
		expectListed(t, may, turns(api.Turn{Minute: 60, Phase: phase}))
		expectListed(t, may, turns(api.Turn{Minute: 60, Phase: api.Trading}, api.Turn{Minute: 61, Phase: phase}))
	}
	for _, minute := range []int{0, 1, 719, 1438, 1439} {
		expectListed(t, true, turns(api.Turn{Minute: minute, Phase: api.Trading}))
	}
	for _, minute := range []int{-1, 1440, 1441, 1<<32 + 1, math.MinInt, math.MaxInt} {
		expectListed(t, false, turns(api.Turn{Minute: minute, Phase: api.Trading}))
		expectListed(t, false, turns(api.Turn{Minute: 5, Phase: api.Trading}, api.Turn{Minute: minute, Phase: api.Closed}))
	}
	expectListed(t, true, turns())
	expectListed(t, true, turns([]api.Turn{}...))
	expectListed(t, true, turns(api.Turn{Minute: 0, Phase: api.PreOpen}, api.Turn{Minute: 1, Phase: api.Trading}, api.Turn{Minute: 1439}))
	expectListed(t, true, turns(api.Turn{Minute: 5, Phase: api.Trading}, api.Turn{Minute: 6, Phase: api.Trading}))
	expectListed(t, false, turns(api.Turn{Minute: 5, Phase: api.PreOpen}, api.Turn{Minute: 5, Phase: api.Trading}))
	expectListed(t, false, turns(api.Turn{Minute: 5, Phase: api.PreOpen}, api.Turn{Minute: 4, Phase: api.Trading}))
	expectListed(t, false, turns(api.Turn{Minute: 5, Phase: api.PreOpen}, api.Turn{Minute: 9, Phase: api.Trading}, api.Turn{Minute: 7}))
	var row []api.Turn
	for n := range 12 {
		expectListed(t, n <= 10, turns(row...))
		row = append(row, api.Turn{Minute: n * 100, Phase: api.Trading})
	}
	expectListed(t, false, turns(make([]api.Turn, 1<<20)...))
}

func TestL1Fees(t *testing.T) {
	for _, c := range []struct {
		maker, taker int
		may          bool
	}{
		{0, 0, true}, {-20, 30, true}, {-30, 30, true}, {0, 30, true}, {10000, 10000, true}, {-10000, 10000, true}, {10000, 0, true}, {0, 10000, true}, {-1, 1, true},
		{-31, 30, false}, {-1, 0, false}, {-10000, 9999, false}, {-10001, 10000, false}, {-10001, 10001, false}, {10001, 0, false}, {10001, 10000, false},
		{0, 10001, false}, {-10000, 10001, false}, {0, -1, false}, {5, -1, false}, {10000, -10000, false},
		{math.MinInt, 0, false}, {math.MaxInt, 0, false}, {0, math.MinInt, false}, {0, math.MaxInt, false}, {math.MinInt, math.MaxInt, false}, {math.MaxInt, math.MaxInt, false}, {math.MinInt, math.MinInt, false},
	} {
		expectListed(t, c.may, changed(func(i *api.Instrument) { i.Maker, i.Taker = c.maker, c.taker }))
	}
}

// Instruments that are right or nearly so.
func TestL1SecondReading(t *testing.T) {
	r := rand.New(rand.NewSource(1))
	c := calendar(t)
	pick := func(l ...int64) int64 { return l[r.Intn(len(l))] }
	right := 0
	for range 300000 {
		i := example()
		for range r.Intn(4) {
			switch r.Intn(9) {
			case 0:
				i.Symbol = []string{"", "A", "Z9", "9Z", "ABCDEFGH", "ABCDEFGHI", "a", "A_"}[r.Intn(8)]
			case 1:
				i.Lot = pick(-1, 0, 1, 3, 7, 10, 1000, 1000000, 1000001)
			case 2:
				i.Most = pick(-1, 0, 1, 7, 9, 10, 999, 1000, 1001, 999999, 1000000, 1000001)
			case 3:
				i.Steps[r.Intn(2)].Tick = pick(-1, 0, 1, 2, 3, 5, 10, 10000, api.MaxPrice, api.MaxPrice+1)
			case 4:
				i.Steps[r.Intn(2)].From = pick(-1, 0, 1, 5, 9999, 10000, 10001, api.MaxPrice, api.MaxPrice+1)
			case 5:
				i.Steps = append(i.Steps, api.Step{From: pick(0, 10000, 10010, 10015, 20000, api.MaxPrice, api.MaxPrice+1), Tick: pick(0, 1, 3, 10, 100)})
			case 6:
				i.Band, i.Reference = int(pick(-1, 0, 1, 1000, 10000, 10001)), pick(-1, 0, 1, 5, 6, 9999, 10000, 10001, 10010, api.MaxPrice, api.MaxPrice+1)
			case 7:
				i.Turns[r.Intn(4)] = api.Turn{Minute: int(pick(-1, 0, 480, 481, 540, 1000, 1030, 1439, 1440)), Phase: r.Intn(8) - 1}
			case 8:
				i.Maker, i.Taker = int(pick(-10001, -10000, -20, -1, 0, 1, 10000, 10001)), int(pick(-1, 0, 1, 19, 20, 21, 10000, 10001))
			}
		}
		want := reading{i: i}.mayList()
		l, e := New(i, c)
		if want != (l != nil) || want != (e == api.OK) || !want && e != api.ErrListing {
			t.Fatalf("New(%+v) = %v, %d, want %v", i, l != nil, e, want)
		}
		if want {
			right++
		}
	}
	if right < 50000 || right > 250000 {
		t.Errorf("%d instruments were right", right)
	}
}

// What was handed in may change later, and is not written into, nor is what stands behind it; what comes out is the caller's.
func TestListsAreNotShared(t *testing.T) {
	i := example()
	steps, turns := make([]api.Step, 2, 9), make([]api.Turn, 4, 12)
	copy(steps, i.Steps)
	copy(turns, i.Turns)
	i.Steps, i.Turns = steps, turns
	c := calendar(t)
	l, e := New(i, c)
	if e != api.OK {
		t.Fatal(e)
	}
	for range 2 {
		x := l.Instrument()
		fillAll(x)
	}
	if !reflect.DeepEqual(i, example()) || slices.ContainsFunc(steps[2:9], func(s api.Step) bool { return s != api.Step{} }) || slices.ContainsFunc(turns[4:12], func(s api.Turn) bool { return s != api.Turn{} }) {
		t.Errorf("what was handed in is now %+v", i)
	}
	fillAll(i)
	if got := l.Instrument(); !reflect.DeepEqual(got, example()) {
		t.Errorf("the listing's instrument is %+v", got)
	}
	a, b := l.Instrument(), l.Instrument()
	fillAll(a)
	if !reflect.DeepEqual(b, example()) {
		t.Errorf("two answers share a list: %+v", b)
	}
	start, _ := clock.Start(20240103)
	if phase, next := l.Phase(start); l.Tick(10000) != 10 || phase != api.Closed || next != start+480*60000 {
		t.Errorf("Tick is %d, Phase %d, %d", l.Tick(10000), phase, next)
	}
}

// fillAll writes into all of an instrument's lists, and into their spare room.
func fillAll(i api.Instrument) {
	for k := range i.Steps[:cap(i.Steps)] {
		i.Steps[:cap(i.Steps)][k] = api.Step{From: 7, Tick: 7}
	}
	for k := range i.Turns[:cap(i.Turns)] {
		i.Turns[:cap(i.Turns)][k] = api.Turn{Minute: 7, Phase: 7}
	}
}

func TestL6Instrument(t *testing.T) {
	for _, i := range []api.Instrument{
		example(),
		withSteps(api.Step{From: 0, Tick: 3}, api.Step{From: 9, Tick: 7}),
		{Symbol: "Z", Lot: 1, Most: 1, Steps: []api.Step{{From: 0, Tick: 1}}, Reference: 1},
	} {
		if got := listed(t, i).Instrument(); !reflect.DeepEqual(got, i) {
			t.Errorf("Instrument() = %+v, want %+v", got, i)
		}
	}
	i := changed(func(i *api.Instrument) { i.Turns = []api.Turn{} })
	if got := listed(t, i).Instrument(); len(got.Turns) != 0 {
		t.Errorf("Turns of none: %v", got.Turns)
	}
}

func TestL2Ticks(t *testing.T) {
	l := listed(t, example())
	for _, c := range []struct{ price, tick, down, up int64 }{
		{9999, 1, 9999, 9999},
		{10000, 10, 10000, 10000},
		{10001, 10, 10000, 10010},
		{10009, 10, 10000, 10010},
		{10010, 10, 10010, 10010},
		{10015, 10, 10010, 10020},
		{1, 1, 1, 1},
		{0, 1, 0, 1},
		{-1, 1, 0, 1},
		{-5, 1, 0, 1},
		{math.MinInt64, 1, 0, 1},
		{999999990, 10, 999999990, 999999990},
		{999999991, 10, 999999990, api.MaxPrice},
		{999999999, 10, 999999990, api.MaxPrice},
		{api.MaxPrice, 10, api.MaxPrice, api.MaxPrice},
		{api.MaxPrice + 1, 10, api.MaxPrice, 0},
		{api.MaxPrice + 10, 10, api.MaxPrice, 0},
		{1<<32 + 10000, 10, api.MaxPrice, 0},
		{math.MaxInt64 - 1, 10, api.MaxPrice, 0},
		{math.MaxInt64, 10, api.MaxPrice, 0},
	} {
		expectTicks(t, l, c.price, c.tick, c.down, c.up)
	}
}

func expectTicks(t *testing.T, l *Listing, price, tick, down, up int64) {
	t.Helper()
	if a, b, c := l.Tick(price), l.Round(price, api.Buy), l.Round(price, api.Sell); a != tick || b != down || c != up {
		t.Errorf("%d: Tick %d, Round %d, %d, want %d, %d, %d", price, a, b, c, tick, down, up)
	}
}

func TestL2GreatTicks(t *testing.T) {
	l := listed(t, withSteps(api.Step{From: 0, Tick: api.MaxPrice}))
	for _, price := range []int64{math.MinInt64, -1, 0, 1, 5, api.MaxPrice - 1} {
		expectTicks(t, l, price, api.MaxPrice, 0, api.MaxPrice)
	}
	expectTicks(t, l, api.MaxPrice, api.MaxPrice, api.MaxPrice, api.MaxPrice)
	expectTicks(t, l, math.MaxInt64, api.MaxPrice, api.MaxPrice, 0)

	l = listed(t, withSteps(api.Step{From: 0, Tick: 1}, api.Step{From: api.MaxPrice, Tick: api.MaxPrice}))
	expectTicks(t, l, api.MaxPrice-1, 1, api.MaxPrice-1, api.MaxPrice-1)
	expectTicks(t, l, api.MaxPrice, api.MaxPrice, api.MaxPrice, api.MaxPrice)
	expectTicks(t, l, 2*api.MaxPrice, api.MaxPrice, api.MaxPrice, 0)
	expectTicks(t, l, math.MaxInt64, api.MaxPrice, api.MaxPrice, 0)

	// The last step's ticks do not come out at MaxPrice.
	l = listed(t, withSteps(api.Step{From: 0, Tick: 10}, api.Step{From: 100, Tick: 600000000}))
	expectTicks(t, l, 101, 600000000, 100, 600000100)
	expectTicks(t, l, 600000100, 600000000, 600000100, 600000100)
	expectTicks(t, l, 600000101, 600000000, 600000100, 0)
	expectTicks(t, l, api.MaxPrice, 600000000, 600000100, 0)
	expectTicks(t, l, math.MaxInt64, 600000000, 600000100, 0)
	expectTicks(t, l, 99, 10, 90, 100)
	expectTicks(t, l, 9, 10, 0, 10)
}

func TestL2NoSide(t *testing.T) {
	l := listed(t, example())
	for _, side := range []int{0, -1, -2, 3, 4, 1<<32 + 1, 1<<32 + 2, math.MinInt, math.MaxInt} {
		for _, price := range []int64{-1, 0, 1, 10000, 10015, api.MaxPrice, api.MaxPrice + 1} {
			if got := l.Round(price, side); got != 0 {
				t.Errorf("Round(%d, %d) = %d", price, side, got)
			}
		}
	}
}

// manySteps gives instruments with small ticks, of one step to eight.
func manySteps(r *rand.Rand) api.Instrument {
	steps := []api.Step{{From: 0, Tick: 1 + r.Int63n(20)}}
	for range r.Intn(8) {
		last := steps[len(steps)-1]
		steps = append(steps, api.Step{From: last.From + last.Tick*(1+r.Int63n(6)), Tick: 1 + r.Int63n(20)})
	}
	return withSteps(steps...)
}

func TestL2SecondReading(t *testing.T) {
	r := rand.New(rand.NewSource(2))
	for range 400 {
		i := manySteps(r)
		l, again := listed(t, i), reading{i: i}
		prices := []int64{api.MaxPrice - 40, api.MaxPrice - 1, api.MaxPrice, api.MaxPrice + 1, api.MaxPrice + 40}
		for p := int64(-30); p < i.Steps[len(i.Steps)-1].From+60; p++ {
			prices = append(prices, p)
		}
		for _, p := range prices {
			if got := l.Tick(p); got != again.step(p).Tick {
				t.Fatalf("%v: Tick(%d) = %d", i.Steps, p, got)
			}
			for side := range 4 {
				if got, want := l.Round(p, side), again.round(p, side); got != want {
					t.Fatalf("%v: Round(%d, %d) = %d, want %d", i.Steps, p, side, got, want)
				}
			}
		}
	}
}

// Which prices may be is told by Check, too: what Round gives comes through, what stands beside it does not.
func TestL2PricesThatMayBe(t *testing.T) {
	r := rand.New(rand.NewSource(3))
	for range 300 {
		i := manySteps(r)
		i.Band = 0
		l := listed(t, i)
		for p := int64(1); p < i.Steps[len(i.Steps)-1].From+60; p++ {
			want := api.OK
			if l.Round(p, api.Buy) != p || l.Round(p, api.Sell) != p {
				want = api.ErrTick
			}
			o := api.Order{Side: api.Sell, Type: api.Limit, Life: api.Day, Price: p, Qty: 10}
			if got := l.Check(o, api.Trading, 1, 0); got != want {
				t.Fatalf("%v: Check at %d = %d, want %d", i.Steps, p, got, want)
			}
		}
	}
}

func TestL3Band(t *testing.T) {
	for _, c := range []struct {
		band                int
		reference, low, top int64
	}{
		{1000, 10000, 9000, 11000},
		{1000, 0, 1, api.MaxPrice},
		{1000, -1, 1, api.MaxPrice},
		{1000, -10000, 1, api.MaxPrice},
		{1000, math.MinInt64, 1, api.MaxPrice},
		{1000, 5, 5, 5},
		{1000, 9, 9, 9},
		{1000, 10, 9, 11},
		{1000, 15, 14, 16},
		{1000, 19, 18, 20},
		{1000, 1, 1, 1},
		{1000, 999999999, 900000000, api.MaxPrice},
		{1000, 909090909, 818181819, 999999999},
		{1000, 909090910, 818181819, api.MaxPrice},
		{1000, api.MaxPrice, 900000000, api.MaxPrice},
		{1000, api.MaxPrice + 1, 900000000, api.MaxPrice},
		{1000, 2 * api.MaxPrice, 900000000, api.MaxPrice},
		{1000, math.MaxInt64, 900000000, api.MaxPrice},
		{0, 10000, 1, api.MaxPrice},
		{0, 0, 1, api.MaxPrice},
		{0, math.MaxInt64, 1, api.MaxPrice},
		{1, 9999, 9999, 9999},
		{1, 10000, 9999, 10001},
		{1, api.MaxPrice, 999900000, api.MaxPrice},
		{10000, 1, 1, 2},
		{10000, 10000, 1, 20000},
		{10000, 500000000, 1, api.MaxPrice},
		{10000, 499999999, 1, 999999998},
		{10000, api.MaxPrice, 1, api.MaxPrice},
		{9999, 10000, 1, 19999},
		{9999, 20000, 2, 39998},
		{9999, 1, 1, 1},
	} {
		l := listed(t, changed(func(i *api.Instrument) { i.Band = c.band }))
		if low, top := l.Band(c.reference); low != c.low || top != c.top {
			t.Errorf("Band %d: Band(%d) = %d, %d, want %d, %d", c.band, c.reference, low, top, c.low, c.top)
		}
	}
}

func TestL3SecondReading(t *testing.T) {
	r := rand.New(rand.NewSource(4))
	for range 3000 {
		i := changed(func(i *api.Instrument) { i.Band = r.Intn(10001) })
		l, again := listed(t, i), reading{i: i}
		for range 50 {
			reference := r.Int63n(1 << (1 + r.Intn(40)))
			low, top := l.Band(reference)
			if a, b := again.band(reference); a != low || b != top {
				t.Fatalf("Band %d: Band(%d) = %d, %d, want %d, %d", i.Band, reference, low, top, a, b)
			}
		}
	}
}

func TestL6Fee(t *testing.T) {
	const most = api.MaxPrice * api.MaxQty
	for _, c := range []struct {
		maker, taker int
		value        int64
		of           bool
		want         int64
	}{
		{-20, 30, 1000000, true, 30},
		{-20, 30, 1000000, false, -20},
		{-20, 30, 99999, false, -2},
		{-20, 30, 100000, false, -2},
		{-20, 30, 100001, false, -3},
		{-20, 30, 99999, true, 2},
		{-20, 30, 1, false, -1},
		{-20, 30, 1, true, 0},
		{-20, 30, 0, false, 0},
		{-20, 30, 0, true, 0},
		{-20, 30, -1, false, 0},
		{-20, 30, -1, true, 0},
		{-20, 30, -1000000, true, 0},
		{-20, 30, math.MinInt64, false, 0},
		{-20, 30, most, true, 30000000000},
		{-20, 30, most, false, -20000000000},
		{-20, 30, most - 1, true, 29999999999},
		{-20, 30, most - 1, false, -20000000000},
		{-20, 30, most + 1, true, 0},
		{-20, 30, most + 1, false, 0},
		{-20, 30, math.MaxInt64, true, 0},
		{-10000, 10000, most, true, 10000000000000},
		{-10000, 10000, most, false, -10000000000000},
		{10000, 10000, most - 1, false, 9999999999999},
		{20, 0, 99999, false, 1},
		{20, 0, 1000000, true, 0},
		{0, 0, 1000000, false, 0},
	} {
		l := listed(t, changed(func(i *api.Instrument) { i.Maker, i.Taker = c.maker, c.taker }))
		if got := l.Fee(c.value, c.of); got != c.want {
			t.Errorf("Maker %d, Taker %d: Fee(%d, %v) = %d, want %d", c.maker, c.taker, c.value, c.of, got, c.want)
		}
	}
}

func TestL6SecondReading(t *testing.T) {
	r := rand.New(rand.NewSource(5))
	for range 3000 {
		i := changed(func(i *api.Instrument) {
			i.Taker = r.Intn(10001)
			i.Maker = r.Intn(10001+i.Taker) - i.Taker
		})
		l, again := listed(t, i), reading{i: i}
		for range 50 {
			value := r.Int63n(1<<(1+r.Intn(52))) - 2
			for _, taker := range []bool{true, false} {
				if got, want := l.Fee(value, taker), again.fee(value, taker); got != want {
					t.Fatalf("Maker %d, Taker %d: Fee(%d, %v) = %d, want %d", i.Maker, i.Taker, value, taker, got, want)
				}
			}
			if l.Fee(value, true)+l.Fee(value, false) < -1 {
				t.Fatalf("both fees of %d are below 0", value)
			}
		}
	}
}

const today = 20240103

// at tells a time by the library's means.
func at(date, minute int, ms int64) int64 {
	day := time.Date(date/10000, time.Month(date/100%100), date%100, 0, minute, 0, 0, time.UTC)
	return day.UnixMilli() + ms
}

func expectPhase(t *testing.T, l *Listing, ms int64, phase int, next int64) {
	t.Helper()
	if p, n := l.Phase(ms); p != phase || n != next {
		t.Errorf("Phase(%d) = %d, %d, want %d, %d", ms, p, n, phase, next)
	}
}

func TestL5Day(t *testing.T) {
	l := listed(t, example(), 20240102)
	turns := []struct{ minute, phase int }{{0, api.Closed}, {480, api.PreOpen}, {540, api.Trading}, {1020, api.Closing}, {1030, api.Closed}}
	for n, turn := range turns {
		next := at(20240104, 480, 0)
		if n+1 < len(turns) {
			next = at(today, turns[n+1].minute, 0)
		}
		last := int64(24 * 60 * 60000)
		if n+1 < len(turns) {
			last = int64(turns[n+1].minute) * 60000
		}
		first := int64(turn.minute) * 60000
		for _, ms := range []int64{first, first + 1, first + 59999, first + 60000, last - 60000, last - 2, last - 1} {
			expectPhase(t, l, at(today, 0, ms), turn.phase, next)
		}
	}
}

func TestL5Days(t *testing.T) {
	l := listed(t, example(), 20240102)
	morning := func(date int) int64 { return at(date, 480, 0) }
	for _, c := range []struct {
		ms    int64
		phase int
		next  int64
	}{
		{at(20240105, 1030, 0), api.Closed, morning(20240108)},  // a Friday
		{at(20240105, 1440, -1), api.Closed, morning(20240108)}, // its end
		{at(20240106, 0, 0), api.Closed, morning(20240108)},     // a Saturday
		{at(20240106, 600, 0), api.Closed, morning(20240108)},   // when on other days there is trade
		{at(20240107, 540, 0), api.Closed, morning(20240108)},   // a Sunday
		{at(20240107, 1440, -1), api.Closed, morning(20240108)}, // its end
		{at(20240108, 0, 0), api.Closed, morning(20240108)},     // a Monday
		{at(20240102, 0, 0), api.Closed, morning(20240103)},     // a holiday
		{at(20240102, 600, 0), api.Closed, morning(20240103)},   // when on other days there is trade
		{at(20240101, 1030, 0), api.Closed, morning(20240103)},  // ahead of it
		{at(20240101, 1029, 59999), api.Closing, at(20240101, 1030, 0)},
		{at(20231229, 1100, 0), api.Closed, morning(20240101)}, // over the year's end
		{at(20240228, 1100, 0), api.Closed, morning(20240229)}, // into a leap day
		{0, api.Closed, 480 * 60000},                           // the first day, a Thursday
		{480 * 60000, api.PreOpen, 540 * 60000},
	} {
		expectPhase(t, l, c.ms, c.phase, c.next)
	}
}

func TestL5NoTime(t *testing.T) {
	i := changed(func(i *api.Instrument) { i.Turns = []api.Turn{{Minute: 0, Phase: api.Trading}} })
	for _, l := range []*Listing{listed(t, example()), listed(t, i)} {
		for _, ms := range []int64{-1, -2, -86400000, math.MinInt64, api.MaxTime + 1, api.MaxTime + 86400000, math.MaxInt64} {
			expectPhase(t, l, ms, api.Closed, 0)
		}
	}
}

// The last days: 99991231 is a Friday.
func TestL5End(t *testing.T) {
	l := listed(t, example())
	expectPhase(t, l, at(99991230, 1030, 0), api.Closed, at(99991231, 480, 0))
	expectPhase(t, l, at(99991231, 479, 59999), api.Closed, at(99991231, 480, 0))
	expectPhase(t, l, at(99991231, 1029, 59999), api.Closing, at(99991231, 1030, 0))
	expectPhase(t, l, at(99991231, 1030, 0), api.Closed, 0)
	expectPhase(t, l, api.MaxTime, api.Closed, 0)
	l = listed(t, example(), 99991231, 99991230)
	expectPhase(t, l, at(99991229, 1029, 0), api.Closing, at(99991229, 1030, 0))
	expectPhase(t, l, at(99991229, 1030, 0), api.Closed, 0)
	expectPhase(t, l, at(99991230, 0, 0), api.Closed, 0)
	expectPhase(t, l, at(99991231, 600, 0), api.Closed, 0)
	i := changed(func(i *api.Instrument) {
		i.Turns = []api.Turn{{Minute: 0, Phase: api.Trading}, {Minute: 1439, Phase: api.PreOpen}}
	})
	l = listed(t, i)
	expectPhase(t, l, at(99991231, 1438, 59999), api.Trading, at(99991231, 1439, 0))
	expectPhase(t, l, at(99991231, 1439, 0), api.PreOpen, 0)
	expectPhase(t, l, api.MaxTime, api.PreOpen, 0)
	expectPhase(t, l, 0, api.Trading, at(19700101, 1439, 0))
}

// A phase goes on neither over night nor over what follows with the same phase.
func TestL5OtherTurns(t *testing.T) {
	one := func(turns ...api.Turn) *Listing {
		return listed(t, changed(func(i *api.Instrument) { i.Turns = turns }))
	}
	l := one(api.Turn{Minute: 0, Phase: api.Trading})
	expectPhase(t, l, at(20240105, 700, 0), api.Trading, at(20240108, 0, 0))
	expectPhase(t, l, at(20240106, 700, 0), api.Closed, at(20240108, 0, 0))
	expectPhase(t, l, at(20240108, 0, -1), api.Closed, at(20240108, 0, 0))
	expectPhase(t, l, at(20240108, 0, 0), api.Trading, at(20240109, 0, 0))
	l = one(api.Turn{Minute: 600, Phase: api.Trading})
	expectPhase(t, l, at(20240104, 1439, 0), api.Trading, at(20240105, 600, 0))
	expectPhase(t, l, at(20240105, 0, 0), api.Closed, at(20240105, 600, 0))
	l = one(api.Turn{Minute: 600, Phase: api.Trading}, api.Turn{Minute: 700, Phase: api.Trading}, api.Turn{Minute: 800, Phase: api.PreOpen})
	expectPhase(t, l, at(20240104, 600, 0), api.Trading, at(20240104, 700, 0))
	expectPhase(t, l, at(20240104, 700, 0), api.Trading, at(20240104, 800, 0))
	expectPhase(t, l, at(20240104, 900, 0), api.PreOpen, at(20240105, 600, 0))
	l = one(api.Turn{Minute: 1439, Phase: api.Closing})
	expectPhase(t, l, at(20240104, 1439, -1), api.Closed, at(20240104, 1439, 0))
	expectPhase(t, l, at(20240104, 1439, 59999), api.Closing, at(20240105, 1439, 0))
	l = one()
	for _, ms := range []int64{0, at(20240105, 700, 0), at(20240106, 700, 0), api.MaxTime} {
		expectPhase(t, l, ms, api.Closed, 0)
	}
}

func TestL5ManyHolidays(t *testing.T) {
	var holidays []int
	for day := time.Date(2024, 1, 4, 0, 0, 0, 0, time.UTC); len(holidays) < 1000; day = day.AddDate(0, 0, 1) {
		holidays = append(holidays, dateOf(day))
	}
	l := listed(t, example(), holidays...)
	expectPhase(t, l, at(20240103, 1030, 0), api.Closed, at(20260930, 480, 0))
	expectPhase(t, l, at(20250603, 600, 0), api.Closed, at(20260930, 480, 0))
}

func TestL5SecondReading(t *testing.T) {
	r := rand.New(rand.NewSource(6))
	phases := []int{api.Closed, api.PreOpen, api.Trading, api.Closing}
	first, last := at(20231201, 0, 0), at(20240401, 0, 0)
	for range 300 {
		i := example()
		i.Turns = nil
		for minute := r.Intn(300); minute < 1440 && len(i.Turns) < r.Intn(12) && len(i.Turns) < 10; minute += 1 + r.Intn(300) {
			i.Turns = append(i.Turns, api.Turn{Minute: minute, Phase: phases[r.Intn(4)]})
		}
		var holidays []int
		for range r.Intn(20) {
			holidays = append(holidays, dateOf(time.UnixMilli(first+r.Int63n(last-first)).UTC()))
		}
		l, again := listed(t, i, holidays...), reading{i, holidays}
		var times []int64
		for range 100 {
			times = append(times, first+r.Int63n(last-first), api.MaxTime-r.Int63n(20*86400000), r.Int63n(20*86400000))
		}
		for _, turn := range i.Turns {
			begins := at(20231201+r.Intn(31), turn.Minute, 0)
			times = append(times, begins-1, begins, begins+1)
		}
		for _, ms := range times {
			p, n := l.Phase(ms)
			if phase, next := again.phase(ms); p != phase || n != next {
				t.Fatalf("%v, %v: Phase(%d) = %d, %d, want %d, %d", i.Turns, holidays, ms, p, n, phase, next)
			}
		}
	}
}

// Who goes from turn to turn meets each phase where it begins: nothing changes in between but at midnight.
func TestL5FromTurnToTurn(t *testing.T) {
	l := listed(t, example(), 20240102)
	ms, count := at(20231229, 0, 0), 0
	for ms < at(20240115, 0, 0) {
		phase, next := l.Phase(ms)
		if next <= ms {
			t.Fatalf("behind %d comes %d", ms, next)
		}
		if p, n := l.Phase(next - 1); n != next || p != phase {
			t.Errorf("ahead of %d: %d, %d, want %d", next, p, n, phase)
		}
		ms, count = next, count+1
	}
	if want := 4*10 + 1; count != want {
		t.Errorf("%d turns, want %d", count, want)
	}
}

// limit gives the order of the chapter's examples.
func limit() api.Order {
	return api.Order{Side: api.Buy, Type: api.Limit, Life: api.Day, Price: 10010, Qty: 20}
}

func order(change func(o *api.Order)) api.Order {
	o := limit()
	change(&o)
	return o
}

func expectCheck(t *testing.T, l *Listing, o api.Order, phase int, want api.Errno) {
	t.Helper()
	if got := l.Check(o, phase, 10000, today); got != want {
		t.Errorf("Check(%+v, %d) = %d, want %d", o, phase, got, want)
	}
}

func TestL4Examples(t *testing.T) {
	l := listed(t, example())
	expectCheck(t, l, limit(), api.Trading, api.OK)
	expectCheck(t, l, order(func(o *api.Order) { o.Price = 10015 }), api.Trading, api.ErrTick)
	expectCheck(t, l, order(func(o *api.Order) { o.Qty = 15 }), api.Trading, api.ErrLot)
	expectCheck(t, l, order(func(o *api.Order) { o.Price = 11010 }), api.Trading, api.ErrBand)
	expectCheck(t, l, limit(), api.Halted, api.ErrPhase)
	expectCheck(t, l, order(func(o *api.Order) { o.Type, o.Price = api.Market, 0 }), api.Trading, api.ErrType)
	expectCheck(t, l, order(func(o *api.Order) { o.Life = api.PostOnly }), api.PreOpen, api.ErrPhase)
	expectCheck(t, l, order(func(o *api.Order) { o.Life = api.AtOpen }), api.Trading, api.ErrPhase)
}

func TestL4WrongNumbers(t *testing.T) {
	l := listed(t, example())
	for _, n := range []int{math.MinInt, -1<<32 + 1, -1, 0, 1, 2, 3, 4, 5, 6, 7, 8, 9, 1<<32 + 1, 1<<32 + 3, math.MaxInt} {
		want := func(least, most int, e api.Errno) api.Errno {
			if n < least || n > most {
				return e
			}
			return api.OK
		}
		expectCheck(t, l, order(func(o *api.Order) { o.Side = n }), api.Trading, want(1, 2, api.ErrType))
		expectCheck(t, l, order(func(o *api.Order) { o.Type = n }), api.Trading, want(1, 1, api.ErrType))
		if n != api.GTD && n != api.AtOpen {
			expectCheck(t, l, order(func(o *api.Order) { o.Life = n }), api.Trading, want(1, 7, api.ErrType))
		}
		if n != api.PreOpen && n != api.Closing {
			expectCheck(t, l, limit(), n, want(3, 3, api.ErrPhase))
		}
	}
	expectCheck(t, l, limit(), api.PreOpen, api.OK)
	expectCheck(t, l, limit(), api.Closing, api.OK)
}

// Of each type, with prices as they must be, the lives that it may have.
func TestL4TypesAndLives(t *testing.T) {
	l := listed(t, example())
	for kind := api.Limit; kind <= api.StopLimit; kind++ {
		for life := api.Day; life <= api.PostOnly; life++ {
			o := api.Order{Side: api.Sell, Type: kind, Life: life, Qty: 20}
			if kind == api.Limit || kind == api.StopLimit {
				o.Price = 10000
			}
			if kind == api.Stop || kind == api.StopLimit {
				o.Stop = 10000
			}
			if life == api.GTD {
				o.Until = today
			}
			phase := api.Trading
			if life == api.AtOpen {
				phase = api.PreOpen
			}
			want := api.ErrType
			if has(livesOfType[kind], life) {
				want = api.OK
			}
			expectCheck(t, l, o, phase, want)
			for _, price := range []int64{0, -1, 10000} {
				for _, stop := range []int64{0, -1, 10000} {
					x := o
					x.Price, x.Stop = price, stop
					if x == o {
						continue
					}
					expectCheck(t, l, x, phase, api.ErrType)
				}
			}
		}
	}
}

func TestL4ShowAndLeast(t *testing.T) {
	l := listed(t, example())
	for life := api.Day; life <= api.PostOnly; life++ {
		phase, until := api.Trading, 0
		if life == api.GTD {
			until = today
		}
		for _, c := range []struct {
			price, stop int64
			kind        int
		}{{10000, 0, api.Limit}, {0, 0, api.Market}, {0, 10000, api.Stop}, {10000, 10000, api.StopLimit}} {
			o := api.Order{Side: api.Buy, Type: c.kind, Life: life, Price: c.price, Stop: c.stop, Qty: 20, Until: until}
			none := l.Check(o, phase, 10000, today)
			for _, part := range []int64{-10, 10, 20} {
				show, least := none, none
				if part < 0 || !has(livesOfShow[c.kind], life) {
					show = api.ErrType
				}
				if part < 0 || !has(livesOfLeast[c.kind], life) {
					least = api.ErrType
				}
				x, y := o, o
				x.Show, y.Least = part, part
				expectCheck(t, l, x, phase, show)
				expectCheck(t, l, y, phase, least)
			}
		}
	}
	both := order(func(o *api.Order) { o.Show, o.Least = 10, 20 })
	expectCheck(t, l, both, api.Trading, api.OK)
	expectCheck(t, l, order(func(o *api.Order) { o.Show = math.MinInt64 }), api.Trading, api.ErrType)
	expectCheck(t, l, order(func(o *api.Order) { o.Least = math.MinInt64 }), api.Trading, api.ErrType)
}

func TestL4Until(t *testing.T) {
	l := listed(t, example())
	until := func(date int) api.Order {
		return order(func(o *api.Order) { o.Life, o.Until = api.GTD, date })
	}
	for _, date := range []int{today, 20240104, 20240106, 20240229, 99991231} {
		expectCheck(t, l, until(date), api.Trading, api.OK)
	}
	for _, date := range []int{20240102, 20231231, 19700101, 0, -1, 20240230, 20250229, 20241301, 20240432, 99991232, 100000101, 1<<32 + today, math.MinInt, math.MaxInt} {
		expectCheck(t, l, until(date), api.Trading, api.ErrType)
	}
	for life := api.Day; life <= api.PostOnly; life++ {
		if life == api.GTD {
			continue
		}
		for _, date := range []int{today, 20240104, -1, 1, math.MaxInt, math.MinInt} {
			o := order(func(o *api.Order) { o.Life, o.Until = life, date })
			expectCheck(t, l, o, api.PreOpen, api.ErrType)
		}
	}
	// The date is any number: it is held against Until alone.
	for _, c := range []struct {
		date int
		want api.Errno
	}{{0, api.OK}, {math.MinInt, api.OK}, {20240103, api.OK}, {20240104, api.ErrType}, {20240199, api.ErrType}, {20240100, api.OK}, {math.MaxInt, api.ErrType}} {
		if got := l.Check(until(today), api.Trading, 10000, c.date); got != c.want {
			t.Errorf("until %d on %d: %d, want %d", today, c.date, got, c.want)
		}
		if got := l.Check(limit(), api.Trading, 10000, c.date); got != api.OK {
			t.Errorf("a Day order on %d: %d", c.date, got)
		}
	}
}

func TestL4Lots(t *testing.T) {
	l := listed(t, example())
	for _, qty := range []int64{10, 20, 500, 990, 1000} {
		expectCheck(t, l, order(func(o *api.Order) { o.Qty = qty }), api.Trading, api.OK)
	}
	for _, qty := range []int64{0, -1, -10, 1, 5, 9, 11, 15, 999, 1001, 1005, 1010, 2000, 1000000, 1<<32 + 20, math.MinInt64, math.MaxInt64} {
		expectCheck(t, l, order(func(o *api.Order) { o.Qty = qty }), api.Trading, api.ErrLot)
	}
	for _, part := range []int64{10, 20, 50, 100} {
		expectCheck(t, l, order(func(o *api.Order) { o.Qty, o.Show = 100, part }), api.Trading, api.OK)
		expectCheck(t, l, order(func(o *api.Order) { o.Qty, o.Least = 100, part }), api.Trading, api.OK)
	}
	for _, part := range []int64{1, 5, 9, 11, 15, 99, 101, 110, 1000, math.MaxInt64, math.MaxInt64 - 7} {
		expectCheck(t, l, order(func(o *api.Order) { o.Qty, o.Show = 100, part }), api.Trading, api.ErrLot)
		expectCheck(t, l, order(func(o *api.Order) { o.Qty, o.Least = 100, part }), api.Trading, api.ErrLot)
	}
}

// An order shows a hundredth of itself at least.
func TestL4Hundredth(t *testing.T) {
	l := listed(t, changed(func(i *api.Instrument) { i.Lot, i.Most = 1, api.MaxQty }))
	for _, c := range []struct {
		show, qty int64
		want      api.Errno
	}{
		{10, 1000, api.OK}, {9, 1000, api.ErrLot}, {9, 901, api.ErrLot}, {9, 900, api.OK}, {1, 100, api.OK}, {1, 101, api.ErrLot}, {2, 101, api.OK}, {1, 1, api.OK}, {0, 1000, api.OK},
		{10000, 1000000, api.OK}, {9999, 1000000, api.ErrLot}, {9999, 999900, api.OK}, {9999, 999901, api.ErrLot}, {1000000, 1000000, api.OK}, {1, 1000000, api.ErrLot},
	} {
		expectCheck(t, l, order(func(o *api.Order) { o.Show, o.Qty = c.show, c.qty }), api.Trading, c.want)
		// Of Least no such thing is asked.
		expectCheck(t, l, order(func(o *api.Order) { o.Least, o.Qty = c.show, c.qty }), api.Trading, api.OK)
	}
}

func TestL4Ticks(t *testing.T) {
	l := listed(t, changed(func(i *api.Instrument) { i.Band = 0 }))
	for _, price := range []int64{1, 9999, 10000, 10010, 999999990, api.MaxPrice, 10001, 10005, 10009, 999999999, api.MaxPrice + 1, api.MaxPrice + 10, 1<<32 + 10000, math.MaxInt64} {
		want := api.ErrTick
		if l.Round(price, api.Sell) == price {
			want = api.OK
		}
		expectCheck(t, l, order(func(o *api.Order) { o.Price = price }), api.Trading, want)
		expectCheck(t, l, order(func(o *api.Order) { o.Type, o.Price, o.Stop = api.Stop, 0, price }), api.Trading, want)
		expectCheck(t, l, order(func(o *api.Order) { o.Type, o.Price, o.Stop = api.StopLimit, price, 10000 }), api.Trading, want)
		expectCheck(t, l, order(func(o *api.Order) { o.Type, o.Price, o.Stop = api.StopLimit, 10000, price }), api.Trading, want)
	}
}

func TestL4Band(t *testing.T) {
	l := listed(t, example())
	for _, c := range []struct {
		price, reference int64
		want             api.Errno
	}{
		{9000, 10000, api.OK}, {8999, 10000, api.ErrBand}, {11000, 10000, api.OK}, {11010, 10000, api.ErrBand}, {1, 10000, api.ErrBand}, {api.MaxPrice, 10000, api.ErrBand},
		{5, 5, api.OK}, {4, 5, api.ErrBand}, {6, 5, api.ErrBand},
		{1, 0, api.OK}, {api.MaxPrice, 0, api.OK}, {1, -5, api.OK}, {api.MaxPrice, math.MinInt64, api.OK},
		{900000000, math.MaxInt64, api.OK}, {899999990, math.MaxInt64, api.ErrBand}, {api.MaxPrice, math.MaxInt64, api.OK},
	} {
		for _, stop := range []int64{0, 10000, 1, api.MaxPrice} {
			o := order(func(o *api.Order) { o.Price, o.Stop = c.price, stop })
			if stop != 0 {
				o.Type = api.StopLimit
			}
			if got := l.Check(o, api.Trading, c.reference, today); got != c.want {
				t.Errorf("Check at %d, stop %d about %d = %d, want %d", c.price, stop, c.reference, got, c.want)
			}
		}
	}
	// Who has no price is not held against the band.
	expectCheck(t, l, order(func(o *api.Order) { o.Type, o.Price, o.Stop = api.Stop, 0, 50000 }), api.Trading, api.OK)
	expectCheck(t, l, order(func(o *api.Order) { o.Type, o.Price, o.Life = api.Market, 0, api.IOC }), api.Trading, api.OK)
}

func TestL4Phases(t *testing.T) {
	l := listed(t, example())
	for phase := -2; phase <= 9; phase++ {
		for life := api.Day; life <= api.PostOnly; life++ {
			o := order(func(o *api.Order) { o.Life = life })
			if life == api.GTD {
				o.Until = today
			}
			want := api.ErrPhase
			if has(livesInPhase[phase], life) {
				want = api.OK
			}
			expectCheck(t, l, o, phase, want)
			if has(livesOfLeast[api.Limit], life) {
				o.Least = 10
				if phase != api.Trading {
					want = api.ErrPhase
				}
				expectCheck(t, l, o, phase, want)
			}
		}
	}
}

// An order in which several things are wrong is told the first.
func TestL4FirstError(t *testing.T) {
	l := listed(t, example())
	wrongs := []struct {
		e      api.Errno
		change func(o *api.Order)
	}{
		{api.ErrType, func(o *api.Order) { o.Side = 3 }},
		{api.ErrLot, func(o *api.Order) { o.Qty = 15 }},
		{api.ErrTick, func(o *api.Order) { o.Stop = 10015 }},
		{api.ErrBand, func(o *api.Order) { o.Price = 50000 }},
	}
	for set := range 1 << (len(wrongs) + 1) {
		o := order(func(o *api.Order) { o.Type, o.Stop = api.StopLimit, 10000 })
		phase, want := api.Trading, api.OK
		if set>>len(wrongs)&1 == 1 {
			phase, want = api.Halted, api.ErrPhase
		}
		for n, w := range slices.Backward(wrongs) {
			if set>>n&1 == 1 {
				w.change(&o)
				want = w.e
			}
		}
		expectCheck(t, l, o, phase, want)
	}
}

func TestL4OtherFields(t *testing.T) {
	l := listed(t, example())
	for _, id := range []int{0, -1, math.MaxInt} {
		o := order(func(o *api.Order) {
			o.ID, o.Owner, o.Done = id, id, int64(id)
			o.Name, o.Account, o.Symbol = "\x00|", strings.Repeat("x", 100), "another"
		})
		expectCheck(t, l, o, api.Trading, api.OK)
		o.Price = 10015
		expectCheck(t, l, o, api.Trading, api.ErrTick)
	}
}

// Each number of side, type, life and phase, with each sign of all else.
func TestL4SecondReadingOfAll(t *testing.T) {
	i := example()
	l, again := listed(t, i), reading{i: i}
	signs := []int64{-1, 0, 1}
	dates := []int{-1, 0, today - 1, today}
	for side := range 4 {
		for kind := range 6 {
			for life := range 9 {
				for phase := range 7 {
					for n := range 81 * 4 {
						o := api.Order{Side: side, Type: kind, Life: life, Qty: 20, Until: dates[n/81]}
						o.Price, o.Stop, o.Show, o.Least = 10000*signs[n%3], 10000*signs[n/3%3], 10*signs[n/9%3], 10*signs[n/27%3]
						if got, want := l.Check(o, phase, 10000, today), again.check(o, phase, 10000, today); got != want {
							t.Fatalf("Check(%+v, %d) = %d, want %d", o, phase, got, want)
						}
					}
				}
			}
		}
	}
}

func TestL4SecondReading(t *testing.T) {
	r := rand.New(rand.NewSource(7))
	pick := func(l ...int64) int64 { return l[r.Intn(len(l))] }
	counts := map[api.Errno]int{}
	for range 200 {
		i := changed(func(i *api.Instrument) {
			i.Lot = pick(1, 3, 10)
			i.Most = i.Lot * pick(1, 2, 50, 300)
			i.Band = int(pick(0, 1, 100, 1000, 10000))
		})
		l, again := listed(t, i), reading{i: i}
		for range 5000 {
			o := api.Order{Side: 1 + r.Intn(2), Type: 1 + r.Intn(4), Life: 1 + r.Intn(7), Qty: i.Lot * (1 + r.Int63n(i.Most/i.Lot))}
			if o.Type == api.Limit || o.Type == api.StopLimit {
				o.Price = pick(1, 8999, 9000, 9005, 9999, 10000, 10005, 10010, 11000, 11005, 11010, 20000, api.MaxPrice, api.MaxPrice+10)
			}
			if o.Type >= api.Stop {
				o.Stop = pick(1, 9000, 10000, 10005, 20000, api.MaxPrice, api.MaxPrice+10)
			}
			if o.Life == api.GTD {
				o.Until = int(pick(today-1, today, today+1, 20240230))
			}
			switch r.Intn(8) {
			case 0:
				o.Qty = pick(-1, 0, 1, i.Lot-1, i.Lot+1, i.Most, i.Most+1, i.Most+i.Lot)
			case 1, 2:
				o.Show = r.Int63n(o.Qty + 2)
			case 3, 4:
				o.Least = r.Int63n(o.Qty + 2)
			case 5:
				o.Show = i.Lot * pick(1, 2, 3)
			}
			phase := int(pick(0, 1, 2, 3, 3, 3, 4, 5))
			reference := pick(-1, 0, 1, 9000, 10000, 10000, 10000, 20000, api.MaxPrice, 2*api.MaxPrice)
			got, want := l.Check(o, phase, reference, today), again.check(o, phase, reference, today)
			if got != want {
				t.Fatalf("%+v: Check(%+v, %d, %d) = %d, want %d", i, o, phase, reference, got, want)
			}
			counts[got]++
		}
	}
	for _, e := range []api.Errno{api.OK, api.ErrType, api.ErrLot, api.ErrTick, api.ErrBand, api.ErrPhase} {
		if counts[e] < 10000 {
			t.Errorf("error %d came %d times alone", e, counts[e])
		}
	}
}

// All calls end, at the ends of all numbers.
func TestWildNumbers(t *testing.T) {
	wild := []int64{math.MinInt64, math.MinInt64 + 1, -1 << 32, -1, 0, 1, 1 << 31, 1 << 32, api.MaxPrice, api.MaxTime, math.MaxInt64 - 1, math.MaxInt64}
	r := rand.New(rand.NewSource(8))
	pick := func() int64 { return wild[r.Intn(len(wild))] }
	c := calendar(t)
	for range 100000 {
		i := api.Instrument{Symbol: "A", Lot: pick(), Most: pick(), Band: int(pick()), Reference: pick(), Maker: int(pick()), Taker: int(pick())}
		i.Lot, i.Most = max(i.Lot, 1), max(i.Most, 1)
		for n := range 1 + r.Intn(3) {
			i.Steps = append(i.Steps, api.Step{From: pick() * int64(min(n, 1)), Tick: pick()})
		}
		i.Turns = []api.Turn{{Minute: int(pick()), Phase: int(pick())}}
		if l, e := New(i, c); (l != nil) != (e == api.OK) || (l != nil) != (reading{i: i}).mayList() {
			t.Fatalf("New(%+v) = %v, %d", i, l != nil, e)
		}
	}
	for _, i := range []api.Instrument{example(), withSteps(api.Step{From: 0, Tick: api.MaxPrice})} {
		l, again := listed(t, i), reading{i: i}
		for range 100000 {
			o := api.Order{Side: int(pick()), Type: 1 + r.Intn(4), Life: 1 + r.Intn(7), Price: pick(), Stop: pick(), Qty: pick(), Show: pick(), Least: pick(), Until: int(pick())}
			phase, reference, date := int(pick()), pick(), int(pick())
			if got, want := l.Check(o, phase, reference, date), again.check(o, phase, reference, date); got != want {
				t.Fatalf("Check(%+v, %d, %d, %d) = %d, want %d", o, phase, reference, date, got, want)
			}
		}
		for _, n := range wild {
			low, top := l.Band(n)
			down, up := l.Round(n, api.Buy), l.Round(n, api.Sell)
			if low < 1 || top > api.MaxPrice || low > top || down != 0 && down > n || up != 0 && up < n || l.Tick(n) < 1 {
				t.Errorf("%d: Band %d, %d, Round %d, %d, Tick %d", n, low, top, down, up, l.Tick(n))
			}
			l.Phase(n)
			l.Fee(n, true)
			l.Fee(n, false)
		}
	}
}

// told writes all that a listing answers to some questions.
func told(l *Listing) string {
	var b strings.Builder
	for _, n := range []int64{-1, 0, 1, 9999, 10000, 10015, api.MaxPrice, api.MaxPrice + 1} {
		low, top := l.Band(n)
		fmt.Fprintln(&b, l.Tick(n), l.Round(n, 1), l.Round(n, 2), low, top, l.Fee(n*n, true), l.Fee(n*n, false), l.Check(order(func(o *api.Order) { o.Price = n }), api.Trading, 10000, today))
	}
	for minute := range 1440 {
		phase, next := l.Phase(at(today, minute, 0))
		fmt.Fprint(&b, phase, " ", next, " ")
	}
	fmt.Fprintln(&b, l.Instrument())
	return b.String()
}

// Listings have nothing to do with one another, nor do calls with those ahead of them, nor with those at the same time.
func TestListingsStandAlone(t *testing.T) {
	c := calendar(t, 20240102)
	a, e := New(example(), c)
	if e != api.OK {
		t.Fatal(e)
	}
	want := told(a)
	b, e := New(changed(func(i *api.Instrument) {
		i.Steps[0].Tick, i.Turns[0].Minute, i.Band, i.Maker = 5, 400, 2, 7
	}), c)
	if e != api.OK {
		t.Fatal(e)
	}
	if told(b) == want {
		t.Errorf("two listings that differ are told alike")
	}
	if told(a) != want {
		t.Errorf("a listing has changed by another one")
	}
	var wait sync.WaitGroup
	for range 8 {
		wait.Go(func() {
			if told(a) != want {
				t.Errorf("a listing is told otherwise while others ask")
			}
		})
	}
	wait.Wait()
}
