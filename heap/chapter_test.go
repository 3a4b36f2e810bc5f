package heap

import (
	"fmt"
	"math/bits"
	"math/rand"
	"slices"
	"testing"

	"outcry/api"
)

// A second reading of the chapter, by other means, against which the package is held: things stand in one row, in the order in which they were pushed, and the least is looked for among all of them each time.

// thing has a key, by which it is ordered, and a mark, by which it is told from those that are alike.
type thing struct{ key, mark int }

func byKey(a, b thing) bool { return a.key < b.key }

type readItem struct {
	x    thing
	gone bool
}

type reading struct{ row []*readItem }

func (r *reading) push(x thing) *readItem {
	i := &readItem{x: x}
	r.row = append(r.row, i)
	return i
}

// least gives where the least stands, -1 if there is none.
func (r *reading) least() int {
	least := -1
	for k, i := range r.row {
		if !i.gone && (least < 0 || i.x.key < r.row[least].x.key) {
			least = k
		}
	}
	return least
}

func (r *reading) pop() (thing, api.Errno) {
	k := r.least()
	if k < 0 {
		return thing{}, api.ErrEmpty
	}
	return r.remove(r.row[k])
}

func (r *reading) peek() (thing, api.Errno) {
	k := r.least()
	if k < 0 {
		return thing{}, api.ErrEmpty
	}
	return r.row[k].x, api.OK
}

func (r *reading) remove(i *readItem) (thing, api.Errno) {
	if i == nil || i.gone || !slices.Contains(r.row, i) {
		return thing{}, api.ErrGone
	}
	i.gone = true
	return i.x, api.OK
}

func (r *reading) set(i *readItem, x thing) api.Errno {
	if i == nil || i.gone || !slices.Contains(r.row, i) {
		return api.ErrGone
	}
	i.x = x
	return api.OK
}

func (r *reading) all() []thing {
	var l []thing
	for _, i := range r.row {
		if !i.gone {
			l = append(l, i.x)
		}
	}
	slices.SortStableFunc(l, func(a, b thing) int { return a.key - b.key })
	return l
}

// most is how often less may be called with n things there (H5): n is halved until one is left.
func most(n int) int {
	halved := 0
	for n > 1 {
		n = (n + 1) / 2
		halved++
	}
	return 4 * (halved + 1)
}

func TestMostIsTheLogarithm(t *testing.T) {
	for n := range 5000 {
		if want := 4 * (bits.Len(uint(max(n, 1)-1)) + 1); most(n) != want {
			t.Fatalf("most(%d) = %d, want %d", n, most(n), want)
		}
	}
}

// move is something that is done to both: the item k is told by how many were pushed earlier.
type move struct {
	kind   string
	k, key int
}

// pair is a heap and its reading, with all items that there ever were.
type pair struct {
	t     *testing.T
	h     *Heap[thing]
	r     reading
	items []*Item[thing]
	reads []*readItem
	calls int
	done  []move
}

func newPair(t *testing.T) *pair {
	p := &pair{t: t}
	p.h = New(func(a, b thing) bool { p.calls++; return byKey(a, b) })
	return p
}

func (p *pair) fail(what string, got, want any) {
	p.t.Helper()
	p.t.Fatalf("%v: %s is %v, want %v", p.done, what, got, want)
}

// step does one thing to both, and holds what they answer, and how often less was called, against each other.
func (p *pair) step(m move) {
	p.t.Helper()
	p.done = append(p.done, m)
	n := p.h.Len()
	p.calls = 0
	x := thing{m.key, len(p.done)}
	switch m.kind {
	case "push":
		p.items = append(p.items, p.h.Push(x))
		p.reads = append(p.reads, p.r.push(x))
	case "pop":
		got, e := p.h.Pop()
		want, f := p.r.pop()
		p.same("Pop", got, e, want, f)
	case "remove":
		got, e := p.h.Remove(p.items[m.k])
		want, f := p.r.remove(p.reads[m.k])
		p.same("Remove", got, e, want, f)
	case "set":
		e, f := p.h.Set(p.items[m.k], x), p.r.set(p.reads[m.k], x)
		p.same("Set", thing{}, e, thing{}, f)
	}
	if p.calls > most(n) {
		p.fail("calls of less", p.calls, most(n))
	}
	p.look()
}

func (p *pair) same(what string, got thing, e api.Errno, want thing, f api.Errno) {
	p.t.Helper()
	if got != want || e != f {
		p.fail(what, fmt.Sprint(got, int(e)), fmt.Sprint(want, int(f)))
	}
}

// look holds against each other what can be asked without a change and without a call of less.
func (p *pair) look() {
	p.t.Helper()
	p.calls = 0
	got, e := p.h.Peek()
	want, f := p.r.peek()
	p.same("Peek", got, e, want, f)
	if p.h.Len() != len(p.r.all()) {
		p.fail("Len", p.h.Len(), len(p.r.all()))
	}
	for k, i := range p.items {
		if i.Value() != p.reads[k].x {
			p.fail(fmt.Sprintf("Value of %d", k), i.Value(), p.reads[k].x)
		}
	}
	if p.calls != 0 {
		p.fail("calls of less by Peek, Len and Value", p.calls, 0)
	}
}

func (p *pair) lookAtAll() {
	p.t.Helper()
	p.calls = 0
	n := p.h.Len()
	got, want := slices.Collect(p.h.All()), p.r.all()
	if !slices.Equal(got, want) || p.h.Len() != n {
		p.fail("All", got, want)
	}
	if p.calls > n*most(n) {
		p.fail("calls of less by All", p.calls, n*most(n))
	}
}

// moves are all that can be done with so many items there, those that are gone among them.
func moves(items, keys int) []move {
	l := []move{{kind: "pop"}}
	for key := range keys {
		l = append(l, move{kind: "push", key: key})
	}
	for k := range items {
		l = append(l, move{kind: "remove", k: k})
		for key := range keys {
			l = append(l, move{kind: "set", k: k, key: key})
		}
	}
	return l
}

// walk goes through every row of so many more moves.
func walk(t *testing.T, done []move, left, items, keys int) {
	if left == 0 {
		p := newPair(t)
		for _, m := range done {
			p.step(m)
		}
		p.lookAtAll()
		return
	}
	for _, m := range moves(items, keys) {
		more := items
		if m.kind == "push" {
			more++
		}
		walk(t, append(slices.Clip(done), m), left-1, more, keys)
	}
}

func TestEveryRowOfMoves(t *testing.T) {
	walk(t, nil, 6, 0, 2)
	walk(t, nil, 5, 0, 3)
}

// TestEveryOrderOfPushes: in every tree that six pushes can make, each thing is removed, or set to each key, and then all are popped.
func TestEveryOrderOfPushes(t *testing.T) {
	const n = 6
	for _, keys := range orders(n) {
		for k := range n {
			changes := []move{{kind: "remove", k: k}}
			for key := -1; key < 2*n; key++ {
				changes = append(changes, move{kind: "set", k: k, key: key})
			}
			for _, m := range changes {
				p := newPair(t)
				for _, x := range keys {
					p.step(move{kind: "push", key: 2 * x})
				}
				p.step(m)
				for range n {
					p.step(move{kind: "pop"})
				}
			}
		}
	}
}

// orders gives all orders in which the numbers below n can stand.
func orders(n int) [][]int {
	if n == 0 {
		return [][]int{{}}
	}
	var l [][]int
	for _, row := range orders(n - 1) {
		for k := range n {
			l = append(l, slices.Insert(slices.Clone(row), k, n-1))
		}
	}
	return l
}

func TestLongWalks(t *testing.T) {
	for seed := range int64(40) {
		r := rand.New(rand.NewSource(seed))
		p := newPair(t)
		keys := []int{1, 3, 20, 1000000}[seed%4]
		for n := range 400 {
			kind := []string{"push", "push", "push", "pop", "remove", "set", "set"}[r.Intn(7)]
			if n > 300 {
				kind = []string{"push", "pop", "pop", "remove", "set"}[r.Intn(5)]
			}
			if len(p.items) == 0 {
				kind = "push"
			}
			p.step(move{kind, r.Intn(max(1, len(p.items))), r.Intn(keys)})
			if n%20 == 0 {
				p.lookAtAll()
			}
		}
		for p.h.Len() > 0 {
			p.step(move{kind: "pop"})
		}
		p.step(move{kind: "pop"})
	}
}
