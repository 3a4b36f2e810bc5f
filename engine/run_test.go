package engine

import (
	"math"
	"math/rand"
	"reflect"
	"runtime"
	"runtime/metrics"
	"slices"
	"sync"
	"testing"
	"time"

	"outcry/api"
)

// walked gives the commands of a walk, and what Do tells of them, one by one.
func walked(seed int64, steps int) (w *walker, l []api.Command, told [][]api.Event) {
	w = newWalker(seed)
	for range steps {
		c := w.command()
		x := w.e.Do(c)
		w.hears(x)
		l, told = append(l, c), append(told, x)
	}
	return w, l, told
}

// again is an engine as a walk's was at its beginning.
func (w *walker) again() *Engine {
	e, _ := New(w.ins, w.accounts, w.calendar)
	return e
}

func sameEvents(a, b [][]api.Event) bool {
	return slices.EqualFunc(a, b, func(x, y []api.Event) bool { return slices.Equal(x, y) })
}

func TestE13RunIsDoOneBehindTheOther(t *testing.T) {
	for seed := range int64(12) {
		w, l, want := walked(seed, 250)
		before := slices.Clone(l)
		for _, workers := range []int{math.MinInt, -3, 0, 1, 2, 3, 4, 5, 6, 7, 8, 9, 10, 11, 12, 13, 14, 15, 16, 17, 1000, math.MaxInt} {
			if got := w.again().Run(l, workers); !sameEvents(got, want) {
				t.Fatalf("walk %d, %d workers: another answer", seed, workers)
			}
		}
		if !slices.Equal(l, before) {
			t.Fatalf("walk %d: the commands were written into", seed)
		}
	}
}

func TestE13RunInPiecesAndMixedWithDo(t *testing.T) {
	for seed := range int64(30) {
		w, l, want := walked(seed, 250)
		e := w.again()
		random := rand.New(rand.NewSource(seed))
		var got [][]api.Event
		for len(got) < len(l) {
			if random.Intn(3) == 0 {
				got = append(got, e.Do(l[len(got)]))
				continue
			}
			n := len(got) + random.Intn(min(20, len(l)-len(got))+1)
			got = append(got, e.Run(l[len(got):n], random.Intn(20)-1)...)
		}
		if !sameEvents(got, want) {
			t.Fatalf("walk %d: another answer", seed)
		}
		if !reflect.DeepEqual(e.living, mapped(w.e, e)) || e.now != w.e.now || e.number != w.e.number {
			t.Fatalf("walk %d: another engine", seed)
		}
	}
}

// mapped gives what lives in one engine, at the instruments of another one.
func mapped(from, to *Engine) map[int]living {
	l := map[int]living{}
	for id, x := range from.living {
		l[id] = living{x.name, to.find(x.at.symbol)}
	}
	return l
}

func TestE13RunOfNothing(t *testing.T) {
	w := start(t, trading)
	for _, workers := range []int{0, 1, 2, 16, 17} {
		if got := w.e.Run(nil, workers); len(got) != 0 {
			t.Errorf("%d workers: %+v", workers, got)
		}
		if got := w.e.Run([]api.Command{{}, {Kind: api.DoTime}}, workers); len(got) != 2 || len(got[0]) != 1 || len(got[1]) != 0 {
			t.Errorf("%d workers: %+v", workers, got)
		}
	}
}

func TestE13NobodyWorksOnBehindTheAnswer(t *testing.T) {
	before := runtime.NumGoroutine()
	w, l, _ := walked(5, 200)
	for range 20 {
		w.again().Run(l, 16)
	}
	for range 5000 { // one that has told that it is done may be about to end
		if runtime.NumGoroutine() <= before {
			return
		}
		time.Sleep(time.Millisecond)
	}
	t.Errorf("%d goroutines, %d ahead", runtime.NumGoroutine(), before)
}

// begun tells how many goroutines were begun from the program's start on.
func begun() int {
	l := []metrics.Sample{{Name: "/sched/goroutines-created:goroutines"}}
	metrics.Read(l)
	return int(l[0].Value.Uint64())
}

func TestE13SoManyWorkers(t *testing.T) {
	w := &walker{Rand: rand.New(rand.NewSource(1)), calendar: newCalendar(t)}
	for n := range 8 {
		w.ins = append(w.ins, w.instrument("S"+string(rune('0'+n))))
	}
	const commands, slack = 2000, 1000 // others begin goroutines, too
	l := slices.Repeat([]api.Command{{Kind: api.DoTime, Time: trading}}, commands)
	for workers, each := range map[int]int{math.MinInt: 0, -1: 0, 0: 0, 1: 0, 2: 2, 3: 3, 8: 8, 9: 8, 16: 8, 17: 0, math.MaxInt: 0} {
		e, before := w.again(), begun()
		e.Run(l, workers)
		if n := begun() - before; n < each*commands || n > each*commands+slack {
			t.Errorf("%d workers: %d goroutines for %d commands, want %d for each", workers, n, commands, each)
		}
		before = begun()
		for _, c := range l {
			e.Do(c)
		}
		if n := begun() - before; n > slack {
			t.Errorf("Do: %d goroutines", n)
		}
	}
}

func TestP3AnswersAreTheCallers(t *testing.T) {
	for seed := range int64(10) {
		w, l, want := walked(seed, 200)
		spoil := func(x []api.Event) {
			x = x[:cap(x)]
			for n := range x {
				x[n] = api.Event{Kind: -1, Name: "spoilt"}
			}
		}
		e := w.again()
		for n, c := range l {
			got := e.Do(c)
			if !slices.Equal(got, want[n]) {
				t.Fatalf("walk %d, step %d: another answer", seed, n)
			}
			spoil(got)
			for _, i := range w.ins {
				levels, _ := e.Depth(i.Symbol, 1+n%2)
				levels = levels[:cap(levels)]
				clear(levels)
			}
		}
		got := w.again().Run(l, 4)
		for n := range got {
			if !slices.Equal(got[n], want[n]) {
				t.Fatalf("walk %d, step %d: another answer", seed, n)
			}
			spoil(got[n])
		}
	}
}

func TestP4EnginesHaveNothingToDoWithOneAnother(t *testing.T) {
	w, l, want := walked(3, 300)
	other, more, _ := walked(4, 300)
	a, b := w.again(), other.again()
	for n, c := range l {
		b.Do(more[n])
		if got := a.Do(c); !slices.Equal(got, want[n]) {
			t.Fatalf("step %d: another answer", n)
		}
	}
	var all sync.WaitGroup
	same := make([]bool, 16)
	for n := range same {
		all.Go(func() { same[n] = sameEvents(w.again().Run(l, n), want) })
	}
	all.Wait()
	if slices.Contains(same, false) {
		t.Errorf("side by side: %v", same)
	}
}

func TestE14Asking(t *testing.T) {
	w := startBoth(t, trading)
	a := order(1, "a", "A", 10, 95, show(3))
	s := order(1, "s", "A", 10, 0, stop(120))
	w.does(a, "accepted ABC 1/a#1 10@95", "ABC buy 95: 3 of 1")
	w.does(s, "accepted ABC 1/s#2 10@0")
	w.does(order(2, "b", "B", 10, 94), "accepted ABC 2/b#3 10@94", "ABC buy 94: 10 of 1")
	w.does(order(2, "c", "B", -4, 95), "accepted ABC 2/c#4 4@95", "traded ABC 1/a#1 7@95: buy 3@95", "traded ABC 2/c#4 1@95: sell 3@95", "traded ABC 1/a#1 6@95: buy 1@95", "traded ABC 2/c#4 0@95: sell 1@95", "ABC buy 95: 2 of 1")
	w.checkOrder(1, "a", after(of(0, 1, a), 4).O)
	w.checkOrder(1, "s", of(0, 2, s).O)
	for _, p := range []pair{{1, "b"}, {2, "a"}, {0, "a"}, {-1, ""}, {2, "c"}, {1, "A"}} {
		w.checkOver(p.owner, p.name)
	}
	for side, want := range map[int][]api.Level{
		api.Buy: {{Price: 95, Qty: 2, Orders: 1}, {Price: 94, Qty: 10, Orders: 1}}, api.Sell: nil, 0: nil, 3: nil, -1: nil, math.MaxInt: nil, math.MinInt: nil,
	} {
		if got, err := w.e.Depth("ABC", side); !slices.Equal(got, want) || err != api.OK {
			t.Errorf("Depth of %d: %+v, %d, want %+v", side, got, err, want)
		}
	}
	for _, symbol := range []string{"", "NO", "abc", "ABC ", "AB"} {
		if got, err := w.e.Depth(symbol, api.Buy); got != nil || err != api.ErrSymbol {
			t.Errorf("Depth of %q: %+v, %d", symbol, got, err)
		}
		if phase, ref, err := w.e.Phase(symbol); phase != 0 || ref != 0 || err != api.ErrSymbol {
			t.Errorf("Phase of %q: %d, %d, %d", symbol, phase, ref, err)
		}
	}
	w.checkPhase("ABC", api.Trading, 100)
	w.at += 7
	w.does(api.Command{Kind: api.DoTime})
	if w.e.Now() != trading+7 {
		t.Errorf("now: %d", w.e.Now())
	}
}

func TestE14DepthTellsAllLevels(t *testing.T) {
	w := start(t, trading)
	for n := range int64(499) {
		c := order(1, "n"+string(rune('A'+n/26))+string(rune('a'+n%26)), "A", 1, 1000-n)
		c.Time = trading
		w.e.Do(c)
	}
	w.e.Do(order(1, "sell", "A", -1, 2000))
	l, err := w.e.Depth("ABC", api.Buy)
	if len(l) != 499 || err != api.OK {
		t.Fatalf("%d levels, %d", len(l), err)
	}
	for n, x := range l {
		if x != (api.Level{Price: 1000 - int64(n), Qty: 1, Orders: 1}) {
			t.Errorf("level %d: %+v", n, x)
		}
	}
}
