package heap

import (
	"fmt"
	"iter"
	"math"
	"math/rand"
	"runtime"
	"slices"
	"strings"
	"sync"
	"testing"
	"weak"

	"outcry/api"
)

func byDigit(a, b int) bool { return a%10 < b%10 }

func byNumber(a, b int) bool { return a < b }

// heapOf makes a heap of numbers, and gives the items of these.
func heapOf(less func(a, b int) bool, numbers ...int) (*Heap[int], []*Item[int]) {
	h := New(less)
	var items []*Item[int]
	for _, x := range numbers {
		items = append(items, h.Push(x))
	}
	return h, items
}

// expect holds what All gives, and Len and Peek, against a list.
func expect(t *testing.T, h *Heap[int], want ...int) {
	t.Helper()
	if got := slices.Collect(h.All()); !slices.Equal(got, want) {
		t.Errorf("All: %v, want %v", got, want)
	}
	if h.Len() != len(want) {
		t.Errorf("Len: %d, want %d", h.Len(), len(want))
	}
	least, e := h.Peek()
	if len(want) == 0 && (least != 0 || e != api.ErrEmpty) {
		t.Errorf("Peek of nothing: %d, %d", least, e)
	}
	if len(want) > 0 && (least != want[0] || e != api.OK) {
		t.Errorf("Peek: %d, %d, want %d", least, e, want[0])
	}
}

func expectPops(t *testing.T, h *Heap[int], want ...int) {
	t.Helper()
	for _, w := range want {
		if x, e := h.Pop(); x != w || e != api.OK {
			t.Errorf("Pop: %d, %d, want %d", x, e, w)
		}
	}
	if x, e := h.Pop(); x != 0 || e != api.ErrEmpty {
		t.Errorf("Pop behind all: %d, %d", x, e)
	}
}

func expectGone(t *testing.T, h *Heap[int], i *Item[int]) {
	t.Helper()
	if x, e := h.Remove(i); x != 0 || e != api.ErrGone {
		t.Errorf("Remove of what is not there: %d, %d", x, e)
	}
	if e := h.Set(i, 77); e != api.ErrGone {
		t.Errorf("Set of what is not there: %d", e)
	}
}

func TestH1New(t *testing.T) {
	h := New(byNumber)
	if h == nil {
		t.Fatal("New gives nil")
	}
	expect(t, h)
	expectPops(t, h)
	expect(t, h)
	other := New(byNumber)
	other.Push(1)
	expect(t, h)
	expect(t, other, 1)
}

func TestH1AnyThings(t *testing.T) {
	none := New(func(a, b struct{}) bool { return false })
	first, second := none.Push(struct{}{}), none.Push(struct{}{})
	if first == second || none.Len() != 2 {
		t.Errorf("two things without anything in them are %d", none.Len())
	}
	if _, e := none.Remove(first); e != api.OK || none.Len() != 1 {
		t.Errorf("Remove: %d, %d left", e, none.Len())
	}
	if _, e := none.Remove(first); e != api.ErrGone {
		t.Errorf("Remove again: %d", e)
	}
	lists := New(func(a, b []int) bool { return len(a) < len(b) })
	lists.Push([]int{1, 2})
	lists.Push(nil)
	lists.Push([]int{3})
	if got := fmt.Sprint(slices.Collect(lists.All())); got != "[[] [3] [1 2]]" {
		t.Errorf("lists: %s", got)
	}
	made := New(func(a, b func() int) bool { return a() < b() })
	made.Push(func() int { return 2 })
	made.Push(func() int { return 1 })
	if f, e := made.Pop(); e != api.OK || f() != 1 {
		t.Errorf("functions: %d", e)
	}
	texts := New(func(a, b any) bool { return fmt.Sprint(a) < fmt.Sprint(b) })
	texts.Push("b")
	texts.Push(nil)
	texts.Push(1)
	if got := fmt.Sprint(slices.Collect(texts.All())); got != "[1 <nil> b]" {
		t.Errorf("anything: %s", got)
	}
	heaps := New(func(a, b *Heap[int]) bool { return a.Len() < b.Len() })
	two, _ := heapOf(byNumber, 1, 2)
	one, _ := heapOf(byNumber, 1)
	heaps.Push(two)
	heaps.Push(one)
	if least, _ := heaps.Peek(); least != one {
		t.Errorf("a heap of heaps has another least")
	}
}

func TestH2PushPeekPop(t *testing.T) {
	h, items := heapOf(byDigit, 13, 22, 3, 12)
	for k, want := range []int{13, 22, 3, 12} {
		if items[k].Value() != want {
			t.Errorf("the item of %d has %d", want, items[k].Value())
		}
	}
	expect(t, h, 22, 12, 13, 3)
	expect(t, h, 22, 12, 13, 3)
	expectPops(t, h, 22, 12, 13, 3)
	expect(t, h)
	h.Push(8)
	h.Push(-5)
	expect(t, h, -5, 8)
}

func TestH2ItemsAreNew(t *testing.T) {
	h := New(byNumber)
	seen := map[*Item[int]]bool{}
	for range 50 {
		i := h.Push(7)
		if i == nil || seen[i] {
			t.Fatal("Push gives an item that there was already, or nil")
		}
		seen[i] = true
		if len(seen)%3 == 0 {
			h.Pop()
		}
	}
}

func TestH2PopMakesGone(t *testing.T) {
	h, items := heapOf(byNumber, 2, 1, 3)
	h.Pop()
	expectGone(t, h, items[1])
	if items[1].Value() != 1 {
		t.Errorf("Value of what was popped: %d", items[1].Value())
	}
	expect(t, h, 2, 3)
	h.Pop()
	h.Pop()
	for _, i := range items {
		expectGone(t, h, i)
	}
	h.Push(1)
	expectGone(t, h, items[1])
	expect(t, h, 1)
}

func TestH2WildNumbers(t *testing.T) {
	wild := []int{math.MaxInt, 0, math.MinInt, -1, math.MaxInt, 1, math.MinInt}
	h, _ := heapOf(byNumber, wild...)
	want := slices.Sorted(slices.Values(wild))
	expect(t, h, want...)
	expectPops(t, h, want...)
}

// TestH2Alike: of things that are alike those that were pushed earlier go ahead, however others came and went in between.
func TestH2Alike(t *testing.T) {
	h := New(byKey)
	for mark := range 100 {
		h.Push(thing{mark % 2, mark})
		if mark%10 == 9 {
			h.Push(thing{-1, 0})
			h.Pop()
		}
	}
	for k := range 100 {
		want := thing{k / 50, k%50*2 + k/50}
		if x, e := h.Pop(); x != want || e != api.OK {
			t.Fatalf("Pop %d: %v, %d, want %v", k, x, e, want)
		}
	}
}

func TestH3Remove(t *testing.T) {
	for k := range 7 {
		numbers := []int{4, 2, 6, 1, 3, 5, 7}
		h, items := heapOf(byNumber, numbers...)
		if x, e := h.Remove(items[k]); x != numbers[k] || e != api.OK {
			t.Errorf("Remove: %d, %d, want %d", x, e, numbers[k])
		}
		expectGone(t, h, items[k])
		if items[k].Value() != numbers[k] {
			t.Errorf("Value of what was removed: %d, want %d", items[k].Value(), numbers[k])
		}
		left := slices.Sorted(slices.Values(slices.Delete(numbers, k, k+1)))
		expect(t, h, left...)
		expectPops(t, h, left...)
	}
	h, items := heapOf(byNumber, 9)
	if x, e := h.Remove(items[0]); x != 9 || e != api.OK {
		t.Errorf("Remove of the only one: %d, %d", x, e)
	}
	expect(t, h)
}

// TestH3RemoveLetsRise: the thing that takes the place of a removed one may belong further up.
func TestH3RemoveLetsRise(t *testing.T) {
	h, items := heapOf(byNumber, 0, 100, 10, 110, 120, 20, 30, 111, 112, 121, 122, 21)
	if x, e := h.Remove(items[7]); x != 111 || e != api.OK {
		t.Errorf("Remove: %d, %d", x, e)
	}
	expect(t, h, 0, 10, 20, 21, 30, 100, 110, 112, 120, 121, 122)
}

func TestH3Set(t *testing.T) {
	h, items := heapOf(byDigit, 5, 4, 9)
	if e := h.Set(items[0], 10); e != api.OK || items[0].Value() != 10 {
		t.Errorf("Set: %d, Value %d", e, items[0].Value())
	}
	expect(t, h, 10, 4, 9)
	if x, e := h.Remove(items[0]); x != 10 || e != api.OK {
		t.Errorf("Remove: %d, %d", x, e)
	}
	expectGone(t, h, items[0])
	if items[0].Value() != 10 {
		t.Errorf("Value of what is gone: %d", items[0].Value())
	}
	for _, x := range []int{8, 9, 19, 3, 4, 14, 0} {
		if e := h.Set(items[1], x); e != api.OK || items[1].Value() != x {
			t.Errorf("Set to %d: %d, Value %d", x, e, items[1].Value())
		}
		expect(t, h, x, 9)
	}
	if e := h.Set(items[2], 1); e != api.OK {
		t.Errorf("Set: %d", e)
	}
	expect(t, h, 0, 1)
	if e := h.Set(items[1], 2); e != api.OK {
		t.Errorf("Set: %d", e)
	}
	expect(t, h, 1, 2)
}

// TestH3SetKeepsWhenPushed: what is set among its like stands there by when it was pushed, not by when it was set.
func TestH3SetKeepsWhenPushed(t *testing.T) {
	h := New(byKey)
	var items []*Item[thing]
	for mark := range 5 {
		items = append(items, h.Push(thing{1, mark}))
	}
	for _, mark := range []int{3, 0, 4, 2} {
		h.Set(items[mark], thing{9, mark})
		h.Set(items[mark], thing{1, mark})
	}
	h.Set(items[1], thing{0, 1})
	h.Push(thing{0, 5})
	h.Set(items[4], thing{0, 4})
	if got := fmt.Sprint(slices.Collect(h.All())); got != "[{0 1} {0 4} {0 5} {1 0} {1 2} {1 3}]" {
		t.Errorf("All: %s", got)
	}
}

func TestH3NotThere(t *testing.T) {
	h, items := heapOf(byNumber, 5, 6)
	other, others := heapOf(byNumber, 5, 6, 7)
	twin := *items[0]
	for _, i := range []*Item[int]{nil, others[0], others[1], others[2], {}, &twin} {
		expectGone(t, h, i)
	}
	empty := New(byNumber)
	for _, i := range []*Item[int]{nil, items[0], items[1], {}} {
		expectGone(t, empty, i)
	}
	expect(t, h, 5, 6)
	expect(t, other, 5, 6, 7)
	expect(t, empty)
	for k, i := range items {
		if i.Value() != 5+k {
			t.Errorf("a refused Set changed an item to %d", i.Value())
		}
	}
	for k, i := range others {
		if i.Value() != 5+k {
			t.Errorf("a refused Set changed another heap's item to %d", i.Value())
		}
	}
	if twin.Value() != 5 {
		t.Errorf("a refused Set changed a copy of an item to %d", twin.Value())
	}
}

// TestH3GoneForEver: an item stays gone, though others come to stand where it stood.
func TestH3GoneForEver(t *testing.T) {
	h := New(byNumber)
	var gone []*Item[int]
	for n := range 60 {
		i := h.Push(n * 37 % 50)
		if n%2 == 0 {
			h.Remove(i)
			gone = append(gone, i)
		}
		before := slices.Collect(h.All())
		for _, g := range gone {
			expectGone(t, h, g)
		}
		expect(t, h, before...)
	}
}

func TestH4AllIsLate(t *testing.T) {
	h, items := heapOf(byNumber, 3, 1, 2)
	all := h.All()
	h.Push(0)
	h.Remove(items[1])
	h.Set(items[0], 9)
	for range 3 {
		if got := fmt.Sprint(slices.Collect(all)); got != "[0 2 9]" {
			t.Errorf("All, gone through later: %s", got)
		}
	}
	for h.Len() > 0 {
		h.Pop()
	}
	for x := range all {
		t.Errorf("All of an empty heap gives %d", x)
	}
}

func TestH4StopEarly(t *testing.T) {
	h, _ := heapOf(byNumber, 5, 4, 3, 2, 1)
	for stop := 1; stop <= 5; stop++ {
		var got []int
		h.All()(func(x int) bool {
			got = append(got, x)
			return len(got) < stop
		})
		if want := []int{1, 2, 3, 4, 5}[:stop]; !slices.Equal(got, want) {
			t.Errorf("stopped behind %d: %v", stop, got)
		}
		expect(t, h, 1, 2, 3, 4, 5)
	}
}

// TestH4ChangesDoNotShow: whatever is done to the heap while one goes through it, what comes is what was there at first.
func TestH4ChangesDoNotShow(t *testing.T) {
	changes := map[string]func(h *Heap[int], items []*Item[int]){
		"push":   func(h *Heap[int], items []*Item[int]) { h.Push(-1); h.Push(35); h.Push(999) },
		"pop":    func(h *Heap[int], items []*Item[int]) { h.Pop() },
		"remove": func(h *Heap[int], items []*Item[int]) { h.Remove(items[4]); h.Remove(items[5]) },
		"set":    func(h *Heap[int], items []*Item[int]) { h.Set(items[4], -7); h.Set(items[0], 1000) },
		"empty": func(h *Heap[int], items []*Item[int]) {
			for h.Len() > 0 {
				h.Pop()
			}
		},
		"all": func(h *Heap[int], items []*Item[int]) {
			for range h.All() {
			}
		},
	}
	for name, change := range changes {
		for when := range 6 {
			h, items := heapOf(byNumber, 30, 10, 60, 20, 50, 40)
			var got []int
			for x := range h.All() {
				if len(got) == when {
					change(h, items)
				}
				got = append(got, x)
			}
			if !slices.Equal(got, []int{10, 20, 30, 40, 50, 60}) {
				t.Errorf("%s behind %d: %v", name, when, got)
			}
		}
	}
}

func TestH4TwoAtOnce(t *testing.T) {
	h, _ := heapOf(byNumber, 3, 1, 2)
	next, stop := iter.Pull(h.All())
	defer stop()
	first, _ := next()
	h.Pop()
	later, end := iter.Pull(h.All())
	defer end()
	second, _ := later()
	third, _ := next()
	h.Pop()
	fourth, _ := later()
	fifth, ok := next()
	if _, more := next(); first != 1 || second != 2 || third != 2 || fourth != 3 || fifth != 3 || !ok || more {
		t.Errorf("two that go through: %d %d %d %d %d, %v, %v", first, second, third, fourth, fifth, ok, more)
	}
}

// rows are things as they may come: up, down, alike, by turns, anyhow.
func rows(n int) map[string][]int {
	up, down, turns := make([]int, n), make([]int, n), make([]int, n)
	for k := range n {
		up[k], down[k], turns[k] = k, n-k, (k%2*2-1)*k
	}
	return map[string][]int{"up": up, "down": down, "turns": turns, "alike": make([]int, n), "anyhow": rand.New(rand.NewSource(int64(n))).Perm(n)}
}

func TestH5Calls(t *testing.T) {
	for name, row := range rows(700) {
		calls := 0
		h := New(func(a, b int) bool { calls++; return a < b })
		var items []*Item[int]
		bound := func(what string, n int) {
			t.Helper()
			if calls > most(n) {
				t.Errorf("%s: %s with %d things: %d calls, at most %d", name, what, n, calls, most(n))
			}
			calls = 0
		}
		for n, x := range row {
			items = append(items, h.Push(x))
			bound("Push", n)
		}
		for k, x := range row {
			h.Set(items[k], -5*x+350)
			bound("Set", 700)
			h.Set(items[k], 9999)
			bound("Set to the end", 700)
			h.Set(items[k], -9999)
			bound("Set to the beginning", 700)
			h.Set(items[k], x)
			bound("Set back", 700)
		}
		for k := 0; k < 700; k += 2 {
			n := h.Len()
			h.Remove(items[k])
			bound("Remove", n)
		}
		for n := h.Len(); n > 0; n-- {
			h.Pop()
			bound("Pop", n)
		}
	}
}

func TestH5CallsOfAll(t *testing.T) {
	for _, n := range []int{0, 1, 2, 3, 4, 5, 7, 8, 9, 31, 32, 33, 500} {
		for name, row := range rows(n) {
			calls := 0
			h := New(func(a, b int) bool { calls++; return a < b })
			for _, x := range row {
				h.Push(x)
			}
			calls = 0
			all := h.All()
			h.Peek()
			h.Len()
			if calls != 0 {
				t.Errorf("%s, %d things: %d calls ahead of going through", name, n, calls)
			}
			if got := slices.Collect(all); len(got) != n || calls > n*most(n) {
				t.Errorf("%s: All with %d things: %d calls, at most %d", name, n, calls, n*most(n))
			}
		}
	}
}

func TestH5NoCalls(t *testing.T) {
	calls := 0
	h := New(func(a, b int) bool { calls++; return a < b })
	i := h.Push(1)
	h.Push(2)
	h.Push(3)
	h.Remove(i)
	calls = 0
	for range 10 {
		h.Peek()
		h.Len()
		i.Value()
		h.Remove(i)
		h.Set(i, 1)
		h.Remove(nil)
		h.All()
	}
	if calls != 0 {
		t.Errorf("%d calls of less", calls)
	}
}

// TestLessIsAskedOfWhatIsThere: less is never asked of what is not in the heap, nor goes in or out in that call.
func TestLessIsAskedOfWhatIsThere(t *testing.T) {
	may := map[thing]bool{}
	h := New(func(a, b thing) bool {
		if !may[a] || !may[b] {
			t.Errorf("less is asked of %v and %v", a, b)
		}
		return byKey(a, b)
	})
	r := rand.New(rand.NewSource(3))
	var items []*Item[thing]
	for n := range 600 {
		clear(may)
		for _, i := range h.items {
			may[i.thing] = true
		}
		x := thing{r.Intn(40), n}
		switch k := r.Intn(len(items) + 1); {
		case n%5 < 2 || k == len(items):
			may[x] = true
			items = append(items, h.Push(x))
		case n%5 == 2:
			h.Pop()
		case n%5 == 3:
			h.Remove(items[k])
		default:
			may[x] = true
			h.Set(items[k], x)
		}
	}
	clear(may)
	for _, i := range h.items {
		may[i.thing] = true
	}
	for range h.All() {
		h.Pop()
	}
}

// TestLessMayLook: less may ask the heap, as long as it changes nothing.
func TestLessMayLook(t *testing.T) {
	var h *Heap[int]
	var first *Item[int]
	h = New(func(a, b int) bool {
		if _, e := h.Peek(); e != api.OK || h.Len() < 1 || first.Value() != 50 {
			t.Errorf("Peek: %d, Len: %d", e, h.Len())
		}
		return a < b
	})
	first = h.Push(50)
	var items []*Item[int]
	for n := range 40 {
		items = append(items, h.Push(n*7%40))
	}
	for n := 0; n < 39; n += 3 {
		h.Remove(items[n])
		h.Set(items[n+1], 100-n)
	}
	before := 0
	for h.Len() > 1 {
		x, _ := h.Pop()
		if x < before {
			t.Fatalf("%d behind %d", x, before)
		}
		before = x
	}
}

// TestLessNoOrder: whatever less answers, calls end, and going through All.
func TestLessNoOrder(t *testing.T) {
	r := rand.New(rand.NewSource(5))
	turn := false
	for name, less := range map[string]func(a, b float64) bool{
		"always":  func(a, b float64) bool { return true },
		"never":   func(a, b float64) bool { return false },
		"anyhow":  func(a, b float64) bool { return r.Intn(2) == 0 },
		"by turn": func(a, b float64) bool { turn = !turn; return turn },
		"round":   func(a, b float64) bool { return math.Mod(b-a+300, 3) < 1.5 },
		"or same": func(a, b float64) bool { return a <= b },
		"numbers": func(a, b float64) bool { return a < b },
	} {
		h := New(less)
		var items []*Item[float64]
		for n := range 200 {
			x := float64(n * 31 % 100)
			if n%4 == 0 {
				x = math.NaN()
			}
			items = append(items, h.Push(x))
			h.Set(items[r.Intn(len(items))], x+1)
			if n%3 == 0 {
				h.Remove(items[r.Intn(len(items))])
			}
			if n%7 == 0 {
				h.Pop()
			}
		}
		n := h.Len()
		if got := slices.Collect(h.All()); len(got) != n {
			t.Errorf("%s: All gives %d of %d", name, len(got), n)
		}
		for ; n > 0; n-- {
			h.Pop()
		}
		if _, e := h.Pop(); e != api.ErrEmpty {
			t.Errorf("%s: %d behind all", name, e)
		}
	}
}

// TestGoneIsNotKept: a heap holds on to nothing that went out of it.
func TestGoneIsNotKept(t *testing.T) {
	type big struct {
		key  int
		room [1000]byte
	}
	h := New(func(a, b *big) bool { return a.key < b.key })
	var gone []weak.Pointer[big]
	var items []*Item[*big]
	for key := range 12 {
		x := &big{key: key}
		items = append(items, h.Push(x))
		gone = append(gone, weak.Make(x))
	}
	for range h.All() {
	}
	h.Pop()
	h.Remove(items[11])
	h.Remove(items[5])
	h.Set(items[6], &big{key: 20})
	items = nil
	runtime.GC()
	runtime.GC()
	for key, x := range gone {
		if isOut := key == 0 || key == 5 || key == 6 || key == 11; isOut != (x.Value() == nil) {
			t.Errorf("the thing %d is kept: %v", key, !isOut)
		}
	}
	runtime.KeepAlive(h)
}

// TestP4StandAlone: heaps have nothing to do with one another, and who goes through one changes nothing, so that many may at once.
func TestP4StandAlone(t *testing.T) {
	var all sync.WaitGroup
	shared, items := heapOf(byNumber, 30, 10, 20, 50, 40)
	for k := range 8 {
		all.Add(1)
		go func() {
			defer all.Done()
			h := New(byNumber)
			for n := range 200 {
				h.Push((n*(2*k+3) + k) % 101)
				if n%3 == 0 {
					h.Pop()
				}
				if got := fmt.Sprint(slices.Collect(shared.All())); got != "[10 20 30 40 50]" {
					t.Errorf("who goes through at the same time: %s", got)
				}
				if x, _ := shared.Peek(); x != 10 || shared.Len() != 5 || items[0].Value() != 30 {
					t.Errorf("who asks at the same time: %d", x)
				}
			}
			if got := slices.Collect(h.All()); !slices.IsSorted(got) || len(got) != h.Len() {
				t.Errorf("a heap of its own: %v", got)
			}
		}()
	}
	all.Wait()
}

func TestP4SameAgain(t *testing.T) {
	run := func() string {
		var b strings.Builder
		h := New(byKey)
		var items []*Item[thing]
		for n := range 300 {
			items = append(items, h.Push(thing{n * 17 % 5, n}))
			h.Set(items[n*7%len(items)], thing{n % 4, -n})
			if n%2 == 0 {
				x, e := h.Pop()
				y, f := h.Remove(items[n*11%len(items)])
				fmt.Fprintln(&b, h.Len(), x, int(e), y, int(f))
			}
		}
		fmt.Fprintln(&b, slices.Collect(h.All()))
		return b.String()
	}
	first := run()
	for range 5 {
		if run() != first {
			t.Fatal("the same calls were answered otherwise")
		}
	}
}
