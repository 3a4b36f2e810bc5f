package arbiter

import (
	"fmt"
	"math"
	"slices"
	"strings"
	"sync"
	"testing"

	"outcry/api"
)

func newArbiter(t *testing.T, window int, patience int64) *Arbiter {
	t.Helper()
	a, e := New(window, patience)
	if a == nil || e != api.OK {
		t.Fatalf("New(%d, %d): %v, %d", window, patience, a, e)
	}
	return a
}

// numbers writes the numbers of packets that were given; each must be the one that packet makes.
func numbers(t *testing.T, l [][]byte) string {
	t.Helper()
	var s []string
	for _, b := range l {
		n, ok := right(b)
		if !ok || string(b) != string(packet(n, "..")) {
			t.Errorf("it gives %x", b)
		}
		s = append(s, fmt.Sprint(n))
	}
	return strings.Join(s, " ")
}

// hear hands in the packet of a number; want are the numbers that it gives.
func hear(t *testing.T, a *Arbiter, line, number int, now int64, want string) {
	t.Helper()
	l, e := a.Hear(line, packet(number, ".."), now)
	if got := numbers(t, l); got != want || e != api.OK {
		t.Errorf("Hear(%d, the packet %d, %d): %q, %d, want %q", line, number, now, got, e, want)
	}
}

func tick(t *testing.T, a *Arbiter, now int64, want string) {
	t.Helper()
	if got := numbers(t, a.Tick(now)); got != want {
		t.Errorf("Tick(%d): %q, want %q", now, got, want)
	}
}

func wants(t *testing.T, a *Arbiter, now int64, want string) {
	t.Helper()
	for range 2 {
		if got := fmt.Sprint(a.Wants(now)); got != want {
			t.Errorf("Wants(%d): %s, want %s", now, got, want)
		}
	}
}

// counts: the number that comes next, and the counts of both lines.
func counts(t *testing.T, a *Arbiter, next int, lines [2][4]int) {
	t.Helper()
	if a.Next() != next || a.Lines() != lines {
		t.Errorf("Next %d, Lines %v, want %d, %v", a.Next(), a.Lines(), next, lines)
	}
}

func TestChapterExamples(t *testing.T) {
	a := newArbiter(t, 3, 10)
	hear(t, a, 0, 1, 0, "1")
	hear(t, a, 0, 3, 5, "")
	wants(t, a, 10, "[[2 2]]")
	wants(t, a, 9, "[]")
	hear(t, a, 1, 2, 6, "2 3")
	hear(t, a, 1, 3, 6, "")
	hear(t, a, 0, 6, 7, "")
	hear(t, a, 0, 7, 7, "")
	tick(t, a, 16, "")
	tick(t, a, 17, "6")
	counts(t, a, 7, [2][4]int{{4, 3, 0, 0}, {2, 1, 1, 0}})
}

func TestQ1New(t *testing.T) {
	for _, window := range []int{1, 2, 999, 1000} {
		for _, patience := range []int64{0, 1, api.MaxTime - 1, api.MaxTime} {
			a := newArbiter(t, window, patience)
			counts(t, a, 1, [2][4]int{})
			wants(t, a, api.MaxTime, "[]")
			tick(t, a, api.MaxTime, "")
			counts(t, a, 1, [2][4]int{})
		}
	}
}

func TestQ1NoArbiter(t *testing.T) {
	for _, window := range []int{0, -1, 1001, math.MaxInt, math.MinInt, 1, 1000} {
		for _, patience := range []int64{-1, api.MaxTime + 1, math.MaxInt64, math.MinInt64, 0, api.MaxTime} {
			if window >= 1 && window <= 1000 && patience >= 0 && patience <= api.MaxTime {
				continue
			}
			if a, e := New(window, patience); a != nil || e != api.ErrArg {
				t.Errorf("New(%d, %d): %v, %d", window, patience, a, e)
			}
		}
	}
}

// TestQ2Args: with a line or a time that may not be nothing happens, whatever the packet is; nothing is counted, and time stands.
func TestQ2Args(t *testing.T) {
	a := newArbiter(t, 5, 10)
	hear(t, a, 0, 3, 20, "")
	for _, c := range []struct {
		line int
		now  int64
	}{{-1, 90}, {2, 90}, {math.MaxInt, 90}, {math.MinInt, 90}, {0, -1}, {1, -1}, {0, api.MaxTime + 1}, {1, math.MaxInt64}, {0, math.MinInt64}, {2, -1}} {
		for _, b := range [][]byte{packet(1, ".."), packet(2, ".."), packet(3, ".."), nil, {1, 2, 3}} {
			if l, e := a.Hear(c.line, b, c.now); l != nil || e != api.ErrArg {
				t.Errorf("Hear(%d, %x, %d): %x, %d", c.line, b, c.now, l, e)
			}
		}
	}
	counts(t, a, 1, [2][4]int{{1, 1, 0, 0}, {}})
	wants(t, a, 24, "[]")
	tick(t, a, 29, "")
	tick(t, a, 30, "3")
	hear(t, a, 0, 4, 0, "4")
	hear(t, a, 1, 5, api.MaxTime, "5")
}

// TestQ2Right: which bytes are right packets, and which are none.
func TestQ2Right(t *testing.T) {
	turned := func(at int, by byte) []byte {
		b := packet(1, "..")
		b[at] ^= by
		return b
	}
	wrong := map[string][]byte{
		"nothing":           nil,
		"no bytes":          {},
		"a sum alone":       seal(nil),
		"8 bytes":           seal([]byte{0, 0, 0, 1}),
		"8 of 9 bytes":      packet(1, "")[:8],
		"a snapshot":        seal([]byte{0, 0, 0, 1, 2, 0, 1, 0}),
		"the kind 0":        seal([]byte{0, 0, 0, 1, 0}),
		"the kind 255":      seal([]byte{0, 0, 0, 1, 255}),
		"the number 0":      packet(0, ".."),
		"above MaxSeq":      packet(api.MaxSeq+1, ".."),
		"the highest bit":   packet(1<<31, ".."),
		"all bits":          packet(1<<32-1, ".."),
		"one byte more":     append(packet(1, ".."), 0),
		"one byte less":     packet(1, "..")[:10],
		"a sum of noughts":  append([]byte{0, 0, 0, 1, 1}, 0, 0, 0, 0),
		"its sum backwards": {0, 0, 0, 1, 1, packet(1, "")[8], packet(1, "")[7], packet(1, "")[6], packet(1, "")[5]},
	}
	for at := range packet(1, "..") {
		for bit := range 8 {
			wrong[fmt.Sprint("bit ", bit, " of byte ", at)] = turned(at, 1<<bit)
		}
	}
	a := newArbiter(t, 1000, 10)
	for what, b := range wrong {
		if l, e := a.Hear(1, b, 0); l != nil || e != api.ErrPacket {
			t.Errorf("%s: Hear(%x): %x, %d", what, b, l, e)
		}
	}
	counts(t, a, 1, [2][4]int{{}, {len(wrong), 0, 0, len(wrong)}})
	wants(t, a, api.MaxTime, "[]")
	for i, body := range []string{"", "\x00", "\x02", strings.Repeat("x", 391), strings.Repeat("x", 392), strings.Repeat("\xff", 70000)} {
		b := packet(i+1, body)
		if l, e := a.Hear(0, b, 0); len(l) != 1 || string(l[0]) != string(b) || e != api.OK {
			t.Errorf("%d bytes: it gives %d packets, %d", len(b), len(l), e)
		}
	}
}

// TestQ2WrongOnesAndTime: a packet that is not right changes nothing but time and the counts of its line.
func TestQ2WrongOnesAndTime(t *testing.T) {
	a := newArbiter(t, 5, 10)
	hear(t, a, 0, 3, 20, "")
	if l, e := a.Hear(1, packet(1, "..")[:9], 29); l != nil || e != api.ErrPacket {
		t.Errorf("Hear: %x, %d", l, e)
	}
	counts(t, a, 1, [2][4]int{{1, 1, 0, 0}, {1, 0, 0, 1}})
	wants(t, a, 0, "[[1 2]]")
	tick(t, a, 0, "")
	if l, e := a.Hear(1, nil, 30); l != nil || e != api.ErrPacket {
		t.Errorf("Hear: %x, %d", l, e)
	}
	tick(t, a, 0, "3")
}

// TestQ3InOrder: packets that come in their order are given at once, whichever line they come over.
func TestQ3InOrder(t *testing.T) {
	for _, window := range []int{1, 2, 1000} {
		a := newArbiter(t, window, 0)
		for n := 1; n <= 300; n++ {
			hear(t, a, n%2, n, 0, fmt.Sprint(n))
			hear(t, a, 1-n%2, n, 0, "")
		}
		counts(t, a, 301, [2][4]int{{300, 150, 150, 0}, {300, 150, 150, 0}})
	}
}

// TestQ3WhatFollows: with the packet that was missing those are given that follow it, up to the next gap.
func TestQ3WhatFollows(t *testing.T) {
	a := newArbiter(t, 10, 100)
	for _, n := range []int{8, 3, 2, 6, 5, 10} {
		hear(t, a, 0, n, 0, "")
	}
	counts(t, a, 1, [2][4]int{{6, 6, 0, 0}, {}})
	hear(t, a, 1, 1, 0, "1 2 3")
	counts(t, a, 4, [2][4]int{{6, 6, 0, 0}, {1, 1, 0, 0}})
	wants(t, a, 50, "[[4 4] [7 7] [9 9]]")
	hear(t, a, 1, 9, 0, "")
	hear(t, a, 1, 4, 0, "4 5 6")
	hear(t, a, 1, 7, 0, "7 8 9 10")
	wants(t, a, api.MaxTime, "[]")
	counts(t, a, 11, [2][4]int{{6, 6, 0, 0}, {4, 4, 0, 0}})
}

// TestQ3WholeWindow: as many as a window lets be kept, backwards.
func TestQ3WholeWindow(t *testing.T) {
	a := newArbiter(t, 1000, 100)
	for n := 1000; n > 1; n-- {
		hear(t, a, 0, n, 0, "")
	}
	hear(t, a, 0, 1001, 0, "")
	var all []string
	for n := 1; n <= 1000; n++ {
		all = append(all, fmt.Sprint(n))
	}
	hear(t, a, 0, 1, 0, strings.Join(all, " "))
	counts(t, a, 1001, [2][4]int{{1001, 1000, 0, 0}, {}})
}

// TestQ4Late: those whose turn is over, and those of which one is kept; the one that is kept stays as it came.
func TestQ4Late(t *testing.T) {
	a := newArbiter(t, 5, 10)
	hear(t, a, 0, 3, 0, "")
	for _, body := range []string{"..", "another one", ""} {
		if l, e := a.Hear(1, packet(3, body), 1); l != nil || e != api.OK {
			t.Errorf("Hear: %x, %d", l, e)
		}
	}
	hear(t, a, 0, 3, 1, "")
	counts(t, a, 1, [2][4]int{{2, 1, 1, 0}, {3, 0, 3, 0}})
	hear(t, a, 0, 1, 1, "1")
	hear(t, a, 0, 1, 1, "")
	hear(t, a, 1, 2, 1, "2 3")
	for n := 1; n <= 3; n++ {
		hear(t, a, 1, n, 1, "")
	}
	counts(t, a, 4, [2][4]int{{4, 2, 2, 0}, {7, 1, 6, 0}})
	hear(t, a, 0, 6, 1, "")
	tick(t, a, 11, "6")
	hear(t, a, 0, 4, 11, "") // one that was passed over
	hear(t, a, 0, 5, 11, "")
	counts(t, a, 7, [2][4]int{{7, 3, 4, 0}, {7, 1, 6, 0}})
}

// TestQ4Window: how far ahead a packet is kept; one that is further ahead is neither first nor late, and may come again.
func TestQ4Window(t *testing.T) {
	for _, window := range []int{1, 2, 3, 7, 1000} {
		a := newArbiter(t, window, 0)
		hear(t, a, 0, 1, 0, "1")
		for _, n := range []int{2 + window, 3 + window, 2000000, api.MaxSeq - 1, api.MaxSeq, 2 + window} {
			hear(t, a, 1, n, 0, "")
		}
		counts(t, a, 2, [2][4]int{{1, 1, 0, 0}, {6, 0, 0, 0}})
		wants(t, a, api.MaxTime, "[]")
		tick(t, a, api.MaxTime, "")
		if window == 1 {
			hear(t, a, 0, 2, 0, "2")
			hear(t, a, 0, 3, 0, "3")
			continue
		}
		hear(t, a, 1, 1+window, 0, "")
		hear(t, a, 1, 2+window, 0, "")
		counts(t, a, 2, [2][4]int{{1, 1, 0, 0}, {8, 1, 0, 0}})
		wants(t, a, api.MaxTime, fmt.Sprintf("[[2 %d]]", window))
		tick(t, a, api.MaxTime, fmt.Sprint(1+window))
		hear(t, a, 1, 2+window, 0, fmt.Sprint(2+window))
	}
}

// TestQ4Since: the gap begins with the first one that is kept; later ones, late ones and those too far ahead do not move it.
func TestQ4Since(t *testing.T) {
	a := newArbiter(t, 10, 10)
	hear(t, a, 0, 15, 3, "") // not kept
	hear(t, a, 0, 5, 4, "")
	hear(t, a, 0, 3, 6, "")
	hear(t, a, 1, 5, 7, "")
	hear(t, a, 1, 20, 8, "")
	if _, e := a.Hear(0, nil, 9); e != api.ErrPacket {
		t.Error(e)
	}
	tick(t, a, 13, "")
	tick(t, a, 14, "3")
	hear(t, a, 0, 4, 15, "4 5")
	hear(t, a, 0, 8, 16, "") // once more the only one
	tick(t, a, 25, "")
	tick(t, a, 26, "8")
}

// TestGivenAnew: whenever packets are given, and others are kept still, the gap ahead of these begins then.
func TestGivenAnew(t *testing.T) {
	a := newArbiter(t, 10, 10)
	hear(t, a, 0, 3, 0, "")
	hear(t, a, 0, 5, 0, "")
	hear(t, a, 0, 1, 9, "1") // before 2, and yet the gap begins anew
	tick(t, a, 18, "")
	tick(t, a, 19, "3")
	hear(t, a, 1, 7, 20, "")
	tick(t, a, 28, "")
	hear(t, a, 1, 4, 28, "4 5")
	tick(t, a, 37, "")
	tick(t, a, 38, "7")
	tick(t, a, api.MaxTime, "")
}

// TestTimeGoesOn: time does not go back, for Hear and Tick and Wants; Tick moves it also if nothing is given, Wants never.
func TestTimeGoesOn(t *testing.T) {
	a := newArbiter(t, 10, 10)
	hear(t, a, 0, 1, 100, "1")
	hear(t, a, 0, 3, 50, "") // at 100
	tick(t, a, 109, "")
	tick(t, a, 0, "")
	wants(t, a, 0, "[[2 2]]") // at 109
	wants(t, a, 200, "[[2 2]]")
	tick(t, a, 0, "") // at 109 still
	tick(t, a, 110, "3")
	tick(t, a, 300, "")     // nothing is kept; time goes on
	hear(t, a, 1, 5, 0, "") // at 300
	wants(t, a, 304, "[]")
	wants(t, a, 305, "[[4 4]]")
	tick(t, a, 309, "")
	hear(t, a, 1, 1, 310, "") // late, and time goes on
	tick(t, a, 0, "5")
	hear(t, a, 1, 90, 400, "") // too far ahead, and time goes on
	hear(t, a, 1, 7, 0, "")
	tick(t, a, 409, "")
	tick(t, a, 410, "7")
}

// TestQ5Tick: the least one that is kept is given, with what follows; one gap a call, also without patience.
func TestQ5Tick(t *testing.T) {
	a := newArbiter(t, 20, 0)
	for _, n := range []int{15, 4, 9, 8, 3, 16, 12} {
		hear(t, a, 0, n, 7, "")
	}
	tick(t, a, 7, "3 4")
	counts(t, a, 5, [2][4]int{{7, 7, 0, 0}, {}})
	tick(t, a, 0, "8 9")
	tick(t, a, 0, "12")
	tick(t, a, 0, "15 16")
	tick(t, a, 0, "")
	counts(t, a, 17, [2][4]int{{7, 7, 0, 0}, {}})
}

// TestQ5NoTime: a time that may not be gives nothing, and is not kept.
func TestQ5NoTime(t *testing.T) {
	for _, patience := range []int64{0, 5} {
		a := newArbiter(t, 5, patience)
		hear(t, a, 0, 2, 1, "")
		for _, now := range []int64{-1, math.MinInt64, api.MaxTime + 1, math.MaxInt64} {
			tick(t, a, now, "")
			wants(t, a, now, "[]")
		}
		counts(t, a, 1, [2][4]int{{1, 1, 0, 0}, {}})
		if patience > 0 {
			wants(t, a, 2, "[]")
			tick(t, a, patience, "")
		}
		tick(t, a, 1+patience, "2")
	}
}

// TestQ5GreatestPatience: who waits for the whole of time.
func TestQ5GreatestPatience(t *testing.T) {
	a := newArbiter(t, 5, api.MaxTime)
	hear(t, a, 0, 2, 0, "")
	wants(t, a, api.MaxTime/2-1, "[]")
	wants(t, a, api.MaxTime/2, "[[1 1]]")
	tick(t, a, api.MaxTime-1, "")
	tick(t, a, api.MaxTime, "2")
	hear(t, a, 0, 4, 0, "")
	tick(t, a, api.MaxTime, "")
	wants(t, a, api.MaxTime, "[]")
	hear(t, a, 0, 3, 0, "3 4")
}

// TestQ6Half: half of patience is rounded down.
func TestQ6Half(t *testing.T) {
	for _, c := range [][2]int64{{0, 0}, {1, 0}, {2, 1}, {3, 1}, {10, 5}, {11, 5}, {api.MaxTime - 50, (api.MaxTime - 50) / 2}} {
		a := newArbiter(t, 5, c[0])
		hear(t, a, 0, 3, 40, "")
		if c[1] > 0 {
			wants(t, a, 40+c[1]-1, "[]")
		}
		wants(t, a, 40+c[1], "[[1 2]]")
		wants(t, a, api.MaxTime, "[[1 2]]")
	}
}

// TestQ6Rows: rows are as long as can be, rising, and end ahead of the greatest that is kept.
func TestQ6Rows(t *testing.T) {
	a := newArbiter(t, 1000, 0)
	wants(t, a, 0, "[]")
	for _, c := range []struct {
		number int
		want   string
	}{
		{1000, "[[1 999]]"},
		{500, "[[1 499] [501 999]]"},
		{501, "[[1 499] [502 999]]"},
		{499, "[[1 498] [502 999]]"},
		{999, "[[1 498] [502 998]]"},
		{2, "[[1 1] [3 498] [502 998]]"},
		{4, "[[1 1] [3 3] [5 498] [502 998]]"},
		{3, "[[1 1] [5 498] [502 998]]"},
	} {
		hear(t, a, 0, c.number, 0, "")
		wants(t, a, 0, c.want)
	}
	hear(t, a, 0, 1, 0, "1 2 3 4")
	wants(t, a, 0, "[[5 498] [502 998]]")
	tick(t, a, 0, "499 500 501")
	wants(t, a, 0, "[[502 998]]")
	tick(t, a, 0, "999 1000")
	wants(t, a, 0, "[]")
}

// TestQ7Lines: each line has its own counts, of each kind.
func TestQ7Lines(t *testing.T) {
	for line := range 2 {
		a := newArbiter(t, 3, 10)
		wrong := func() {
			if _, e := a.Hear(line, []byte("no packet"), 0); e != api.ErrPacket {
				t.Error(e)
			}
		}
		want := [2][4]int{}
		is := func(next int, mine [4]int) {
			t.Helper()
			want[line] = mine
			counts(t, a, next, want)
		}
		hear(t, a, line, 1, 0, "1")
		is(2, [4]int{1, 1, 0, 0})
		hear(t, a, line, 4, 0, "")
		is(2, [4]int{2, 2, 0, 0})
		hear(t, a, line, 5, 0, "")
		is(2, [4]int{3, 2, 0, 0})
		hear(t, a, line, 4, 0, "")
		is(2, [4]int{4, 2, 1, 0})
		hear(t, a, line, 1, 0, "")
		is(2, [4]int{5, 2, 2, 0})
		wrong()
		is(2, [4]int{6, 2, 2, 1})
		tick(t, a, 10, "4")
		is(5, [4]int{6, 2, 2, 1})
		other := 1 - line
		hear(t, a, other, 5, 0, "5")
		want[other] = [4]int{1, 1, 0, 0}
		is(6, [4]int{6, 2, 2, 1})
		l := a.Lines()
		l[0][0], l[1][3] = 90, 90
		is(6, [4]int{6, 2, 2, 1})
	}
}

// TestGreatestNumbers goes up to MaxSeq by passing over as many as can be, and finds nothing behind it.
func TestGreatestNumbers(t *testing.T) {
	a := newArbiter(t, 1000, 0)
	for n := 1000; n < api.MaxSeq; n += 1000 {
		a.Hear(0, packet(n, ".."), 0)
		if l := a.Tick(0); len(l) != 1 {
			t.Fatalf("at %d: %x", n, l)
		}
	}
	next := a.Next()
	hear(t, a, 1, api.MaxSeq, 0, "")
	hear(t, a, 1, api.MaxSeq-1, 0, "")
	wants(t, a, 0, fmt.Sprintf("[[%d %d]]", next, api.MaxSeq-2))
	tick(t, a, 0, fmt.Sprint(api.MaxSeq-1, " ", api.MaxSeq))
	if a.Next() != api.MaxSeq+1 {
		t.Errorf("Next: %d", a.Next())
	}
	hear(t, a, 1, api.MaxSeq, 0, "")
	hear(t, a, 1, 1, 0, "")
	if l, e := a.Hear(1, packet(api.MaxSeq+1, ".."), 0); l != nil || e != api.ErrPacket {
		t.Errorf("behind MaxSeq: %x, %d", l, e)
	}
	tick(t, a, api.MaxTime, "")
	wants(t, a, api.MaxTime, "[]")
	if got, want := a.Lines()[1], [4]int{5, 2, 2, 1}; got != want {
		t.Errorf("Lines: %v, want %v", got, want)
	}
}

// TestP3Memory writes into what was handed in, and into what came out.
func TestP3Memory(t *testing.T) {
	a := newArbiter(t, 10, 0)
	lend := func(number int) [][]byte {
		t.Helper()
		b := packet(number, "..")
		room := append(slices.Clone(b), 1, 2, 3)
		l, e := a.Hear(0, room[:len(b)], 0)
		if e != api.OK || string(room) != string(b)+"\x01\x02\x03" {
			t.Errorf("the packet, or what stands behind it, was written into (%d)", e)
		}
		clear(room)
		return l
	}
	spoil := func(want string, l [][]byte) {
		t.Helper()
		if got := numbers(t, l); got != want {
			t.Errorf("it gives %q, want %q", got, want)
		}
		for i, b := range l {
			clear(b[:cap(b)])
			numbers(t, l[i+1:])
		}
		clear(l[:cap(l)])
	}
	for _, n := range []int{2, 3, 5, 6, 8} {
		spoil("", lend(n))
	}
	rows := a.Wants(0)
	clear(rows[:cap(rows)])
	wants(t, a, 0, "[[1 1] [4 4] [7 7]]")
	spoil("1 2 3", lend(1))
	spoil("5 6", a.Tick(0))
	spoil("7 8", lend(7))
	spoil("9", lend(9))
	counts(t, a, 10, [2][4]int{{8, 8, 0, 0}, {}})
}

// TestRule8GivenOnesAreForgotten: nothing stays of packets that were given, or were not kept.
func TestRule8GivenOnesAreForgotten(t *testing.T) {
	a := newArbiter(t, 4, 0)
	for n := 1; n < 2000; n += 4 {
		hear(t, a, 0, n+2, 0, "")
		hear(t, a, 0, n+9, 0, "")
		hear(t, a, 0, n, 0, fmt.Sprint(n))
		tick(t, a, 0, fmt.Sprint(n+2))
		hear(t, a, 1, n+3, 0, fmt.Sprint(n+3))
		if len(a.kept) != 0 {
			t.Fatalf("%d are kept", len(a.kept))
		}
	}
}

// TestP4ArbitersAreTheirOwn: arbiters have nothing to do with one another, also when goroutines use them, each its own.
func TestP4ArbitersAreTheirOwn(t *testing.T) {
	var all sync.WaitGroup
	for range 8 {
		all.Go(func() {
			a, _ := New(50, 10)
			for n := 1; n < 3000; n += 3 {
				now := int64(n) * 10
				a.Hear(0, packet(n+2, ".."), now)
				if w := a.Wants(now + 5); !slices.Equal(w, [][2]int{{n, n + 1}}) {
					t.Errorf("Wants: %v", w)
				}
				a.Hear(1, packet(n+1, ".."), now)
				l := a.Tick(now + 10)
				if numbers(t, l) != fmt.Sprint(n+1, " ", n+2) {
					t.Errorf("at %d: %x", n, l)
				}
			}
			counts(t, a, 3001, [2][4]int{{1000, 1000, 0, 0}, {1000, 1000, 0, 0}})
		})
	}
	all.Wait()
}
