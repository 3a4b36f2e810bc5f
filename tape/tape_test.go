package tape

import (
	"bytes"
	"math"
	"math/rand"
	"slices"
	"strings"
	"sync"
	"testing"

	"outcry/api"
)

// appended adds commands, all of which may be.
func appended(t *testing.T, a *Tape, l ...api.Command) {
	t.Helper()
	for _, c := range l {
		if e := a.Append(c); e != api.OK {
			t.Fatalf("Append(%#v): %d", c, e)
		}
	}
}

// holds: a tape has just these commands, and their bytes.
func holds(t *testing.T, a *Tape, l ...api.Command) {
	t.Helper()
	if b, want := a.Bytes(), chapterTape(l...); !bytes.Equal(b, want) {
		t.Errorf("Bytes: %x, want %x", b, want)
	}
	if n := a.Len(); n != len(l) {
		t.Errorf("Len: %d, want %d", n, len(l))
	}
	for i, want := range l {
		if c, e := a.Command(i); e != api.OK || c != want {
			t.Errorf("Command(%d): %#v, %d, want %#v", i, c, e, want)
		}
	}
	for _, i := range []int{math.MinInt, -2, -1, len(l), len(l) + 1, math.MaxInt} {
		if c, e := a.Command(i); e != api.ErrArg || c != (api.Command{}) {
			t.Errorf("Command(%d) of %d: %#v, %d", i, len(l), c, e)
		}
	}
}

// opened opens a tape: n of its bytes are right, and have these commands.
func opened(t *testing.T, b []byte, n int, l ...api.Command) *Tape {
	t.Helper()
	a, got, e := Open(b)
	if a == nil || e != api.OK {
		t.Fatalf("Open(%x): %v, %d", b, a, e)
	}
	if got != n {
		t.Errorf("Open(%x): %d bytes, want %d", b, got, n)
	}
	holds(t, a, l...)
	return a
}

// some is commands of all kinds and lengths.
func some() []api.Command {
	return []api.Command{{Kind: api.DoTime, Time: 300}, full(), {Kind: api.DoHalt}, widest(), {Kind: api.DoCancel, Owner: 1, Name: "x"}}
}

// ends tells how many bytes a tape of commands has up to the end of each, and of its four bytes first.
func ends(l []api.Command) []int {
	at := []int{4}
	for n := range l {
		at = append(at, len(chapterTape(l[:n+1]...)))
	}
	return at
}

func TestA1NewHasNothing(t *testing.T) {
	holds(t, New())
	a, b := New(), New()
	appended(t, a, full())
	holds(t, a, full())
	holds(t, b)
	opened(t, New().Bytes(), 4)
}

// TestA2TheBytesOfATape has a tape byte by byte, spaces between the parts.
func TestA2TheBytesOfATape(t *testing.T) {
	b := unhex(t, "4f544150 0004 9cd3867e 0a 02 d804 0002 5fcaeb7b 0c 00")
	l := []api.Command{{Kind: 5, Time: 300}, {Kind: 6}}
	a := New()
	appended(t, a, l...)
	if got := a.Bytes(); !bytes.Equal(got, b) {
		t.Errorf("%x, want %x", got, b)
	}
	opened(t, b, len(b), l...)
}

func TestA2NoTape(t *testing.T) {
	right := string(chapterTape(some()...))
	for _, s := range []string{"", "O", "OT", "OTA", "OTAQ", "otap", "PATO", " OTAP", "\x00OTAP", "\x00\x00\x00\x00", "OTQP", "OUAP", "PTAP", right[1:], right[4:], "\xef\xbb\xbf" + right} {
		if a, n, e := Open([]byte(s)); a != nil || n != 0 || e != api.ErrTape {
			t.Errorf("Open(%q): %v, %d, %d", s, a, n, e)
		}
	}
	if a, n, e := Open(nil); a != nil || n != 0 || e != api.ErrTape {
		t.Errorf("Open(nil): %v, %d, %d", a, n, e)
	}
}

// TestA2Beginnings: of a beginning of the bytes all records are there that are whole.
func TestA2Beginnings(t *testing.T) {
	l := some()
	b, at := chapterTape(l...), ends(l)
	for cut := range len(b) + 1 {
		if cut < 4 {
			if a, n, e := Open(b[:cut]); a != nil || n != 0 || e != api.ErrTape {
				t.Errorf("%d bytes: %v, %d, %d", cut, a, n, e)
			}
			continue
		}
		n := 0
		for n < len(l) && at[n+1] <= cut {
			n++
		}
		opened(t, b[:cut], at[n], l[:n]...)
	}
}

// TestA2OneByteChanged: just the records ahead of it are told.
func TestA2OneByteChanged(t *testing.T) {
	l := some()
	b, at := chapterTape(l...), ends(l)
	for n := range l {
		for i := at[n]; i < at[n+1]; i++ {
			for change := 1; change < 256; change++ {
				spoiltTape := bytes.Clone(b)
				spoiltTape[i] ^= byte(change)
				a, got, e := Open(spoiltTape)
				if e != api.OK || got != at[n] || a.Len() != n {
					t.Fatalf("byte %d, changed by %d: %d bytes, %d", i, change, got, e)
				}
			}
		}
	}
	for i := range 4 {
		for change := 1; change < 256; change++ {
			spoiltTape := bytes.Clone(b)
			spoiltTape[i] ^= byte(change)
			if a, n, e := Open(spoiltTape); a != nil || n != 0 || e != api.ErrTape {
				t.Fatalf("byte %d, changed by %d: %d, %d", i, change, n, e)
			}
		}
	}
}

// TestA2RecordsThatAreNotRight: what is wrong ends the tape, though what follows would be right.
func TestA2RecordsThatAreNotRight(t *testing.T) {
	first := api.Command{Kind: api.DoTime, Time: 300}
	front := chapterTape(first)
	right := chapterBytes(full())
	for name, wrong := range map[string][]byte{
		"nothing":                             nil,
		"one byte":                            {0},
		"noughts":                             make([]byte, 1000),
		"a length alone":                      {0, 4},
		"a length and a part of the sum":      chapterRecord(1, right)[:5],
		"a head alone":                        chapterRecord(1, right)[:6],
		"all but the last byte":               chapterRecord(1, right)[:5+len(right)],
		"a length of 0, with its sum":         chapterRecord(1, nil),
		"a length of 601, with its sum":       chapterRecord(1, make([]byte, 601)),
		"a length of 65535, with its sum":     chapterRecord(1, make([]byte, 65535)),
		"noughts, with their sum":             chapterRecord(1, make([]byte, 20)),
		"no command, with its sum":            chapterRecord(1, []byte("no command")),
		"a command of no kind":                chapterRecord(1, []byte{0x14, 0}),
		"a command, and more":                 chapterRecord(1, append(bytes.Clone(right), 0)),
		"a part of a command":                 chapterRecord(1, right[:len(right)-1]),
		"the number of the one ahead":         chapterRecord(0, right),
		"the number of the next one":          chapterRecord(2, right),
		"a number far off":                    chapterRecord(1<<32-1, right),
		"the first one once more":             front[4:],
		"the beginning of a tape":             chapterTape(full()),
		"a sum with its lowest byte first":    func() []byte { r := chapterRecord(1, right); slices.Reverse(r[2:6]); return r }(),
		"a length with its lowest byte first": func() []byte { r := chapterRecord(1, right); r[0], r[1] = r[1], r[0]; return r }(),
	} {
		t.Run(name, func(t *testing.T) {
			b := append(bytes.Clone(front), wrong...)
			opened(t, b, len(front), first)
			if len(wrong) > 0 {
				b = append(b, chapterRecord(1, right)...)
				opened(t, append(b, chapterRecord(2, right)...), len(front), first)
			}
		})
	}
	opened(t, append(bytes.Clone(front), chapterRecord(1, right)...), len(front)+6+len(right), first, full())
}

// TestA2RecordsStayInTheirPlaces: they can't change places, stand twice, or be left out.
func TestA2RecordsStayInTheirPlaces(t *testing.T) {
	l := []api.Command{{Kind: 6}, {Kind: 7}, {Kind: 5, Time: 1}, {Kind: 5, Time: 1}}
	at := ends(l)
	b := chapterTape(l...)
	part := func(n int) []byte { return b[at[n]:at[n+1]] }
	for _, x := range []struct {
		parts []int
		right int
	}{
		{[]int{0, 1, 2, 3}, 4}, {[]int{1, 0, 2, 3}, 0}, {[]int{0, 2, 1, 3}, 1}, {[]int{0, 1, 3, 2}, 2},
		{[]int{0, 0, 1, 2}, 1}, {[]int{0, 1, 2, 2}, 3}, {[]int{1, 2, 3}, 0}, {[]int{0, 2, 3}, 1}, {[]int{0, 1, 3}, 2}, {[]int{3}, 0},
	} {
		made := []byte("OTAP")
		for _, n := range x.parts {
			made = append(made, part(n)...)
		}
		opened(t, made, at[x.right], l[:x.right]...)
	}
}

// TestA2RecordsOfAnotherTape: at the same number they are as right as their own.
func TestA2RecordsOfAnotherTape(t *testing.T) {
	l := some()
	other := []api.Command{{Kind: 6}, {Kind: 7}, {Kind: 8, Account: api.Account{Name: "A"}}}
	b := append(chapterTape(l[:2]...), chapterTape(other...)[ends(other)[2]:]...)
	opened(t, b, len(b), l[0], l[1], other[2])
}

func TestA3CommandsStandBehindOneAnother(t *testing.T) {
	a := New()
	for n, c := range some() {
		appended(t, a, c)
		holds(t, a, some()[:n+1]...)
	}
	for _, c := range []api.Command{{}, {Kind: 10}, {Kind: 1, Time: -1}, {Kind: 1, O: api.Order{Name: strings.Repeat("x", 61)}}} {
		if e := a.Append(c); e != chapterMayBe(c) {
			t.Errorf("Append(%#v): %d", c, e)
		}
	}
	appended(t, a, full(), full())
	holds(t, a, append(some(), full(), full())...)
}

// TestA3GoesOnBehindOpen: whatever followed what was right is not there.
func TestA3GoesOnBehindOpen(t *testing.T) {
	l := some()
	b, at := chapterTape(l...), ends(l)
	for n := range l {
		for _, more := range []int{0, 1, 7} {
			cut := min(at[n]+more, len(b)-1)
			a := opened(t, b[:cut], at[n], l[:n]...)
			appended(t, a, l[n:]...)
			holds(t, a, l...)
			opened(t, a.Bytes(), len(b), l...)
		}
	}
}

// TestA2A3Many has as many commands as may be, and one more.
func TestA2A3Many(t *testing.T) {
	const many = 1000000
	time := func(n int) api.Command { return api.Command{Kind: api.DoTime, Time: int64(n)} }
	a := New()
	want := []byte("OTAP")
	for n := range many {
		appended(t, a, time(n))
		want = append(want, chapterRecord(n, chapterBytes(time(n)))...)
	}
	check := func(a *Tape) {
		t.Helper()
		if a.Len() != many || !bytes.Equal(a.Bytes(), want) {
			t.Fatalf("%d commands, %d bytes, want %d", a.Len(), len(a.Bytes()), len(want))
		}
		for c, e := range map[api.Command]api.Errno{time(1): api.ErrMany, full(): api.ErrMany, {}: api.ErrKind, {Kind: 10, Time: -1}: api.ErrKind, {Kind: 1, Time: -1}: api.ErrArg} {
			if got := a.Append(c); got != e {
				t.Errorf("Append(%#v): %d, want %d", c, got, e)
			}
		}
		if a.Len() != many || !bytes.Equal(a.Bytes(), want) {
			t.Errorf("behind that %d commands, %d bytes", a.Len(), len(a.Bytes()))
		}
		for _, n := range []int{0, 1, 65535, 65536, many - 1} {
			if c, e := a.Command(n); c != time(n) || e != api.OK {
				t.Errorf("Command(%d): %#v, %d", n, c, e)
			}
		}
		if c, e := a.Command(many); c != (api.Command{}) || e != api.ErrArg {
			t.Errorf("Command(%d): %#v, %d", many, c, e)
		}
	}
	check(a)
	for _, more := range [][]byte{nil, chapterRecord(many, chapterBytes(time(7)))} {
		o, n, e := Open(append(bytes.Clone(want), more...))
		if o == nil || n != len(want) || e != api.OK {
			t.Fatalf("Open: %d bytes, %d", n, e)
		}
		check(o)
	}
	last := len(want) - len(chapterRecord(many-1, chapterBytes(time(many-1))))
	o, n, e := Open(want[:len(want)-1])
	if o == nil || n != last || e != api.OK || o.Len() != many-1 {
		t.Fatalf("Open: %d bytes, %d", n, e)
	}
	appended(t, o, time(many-1))
	check(o)
}

// TestP3TapesKeepNothingOfTheCallers writes into what was handed in and what came out.
func TestP3TapesKeepNothingOfTheCallers(t *testing.T) {
	l := some()
	b := chapterTape(l...)
	room := append(bytes.Clone(b), make([]byte, 2000)...)
	for _, handed := range [][]byte{room[:len(b)], room[:len(b)-1], room} {
		was := bytes.Clone(room)
		a, _, _ := Open(handed)
		held := a.Len()
		appended(t, a, full())
		if !bytes.Equal(room, was) {
			t.Fatal("what was handed in was written into")
		}
		spoil(room)
		holds(t, a, append(l[:held:held], full())...)
		spoil(room)
		one, two := a.Bytes(), a.Bytes()
		spoil(one)
		if !bytes.Equal(two, chapterTape(append(l[:held:held], full())...)) {
			t.Error("two answers share memory")
		}
		spoil(two)
		c, _ := a.Command(1)
		appended(t, a, full())
		if c != full() {
			t.Errorf("%#v", c)
		}
		holds(t, a, append(l[:held:held], full(), full())...)
	}
	a := New()
	first := a.Bytes()
	appended(t, a, l...)
	spoil(first)
	holds(t, a, l...)
	holds(t, New())
}

// TestWaysPartsEndWhereTheyEnd: nobody who appends to a part writes into what follows.
func TestWaysPartsEndWhereTheyEnd(t *testing.T) {
	l := some()
	a := opened(t, chapterTape(l...), len(chapterTape(l...)), l...)
	for n := range l {
		r := a.record(n)
		if command := commandOf(r); cap(r) != len(r) || cap(command) != len(command) || !bytes.Equal(r, chapterRecord(n, chapterBytes(l[n]))) {
			t.Errorf("record %d: %x, with room for %d", n, r, cap(r)-len(r))
		}
	}
	b := a.Bytes()[4:]
	if r, ok := firstRecord(b, 0); !ok || cap(r) != len(r) {
		t.Errorf("%x, with room for %d, %v", r, cap(r)-len(r), ok)
	}
}

// TestP4TapesHaveNothingToDoWithOneAnother writes and reads many, in turns and side by side.
func TestP4TapesHaveNothingToDoWithOneAnother(t *testing.T) {
	r := rand.New(rand.NewSource(4))
	lists, tapes := make([][]api.Command, 8), make([]*Tape, 8)
	for n := range tapes {
		tapes[n] = New()
	}
	for range 400 {
		n := r.Intn(len(tapes))
		c := randomCommand(r)
		appended(t, tapes[n], c)
		lists[n] = append(lists[n], c)
	}
	var all sync.WaitGroup
	same := make([]bool, len(tapes))
	for n, a := range tapes {
		holds(t, a, lists[n]...)
		all.Go(func() {
			o, _, _ := Open(a.Bytes())
			o.Append(lists[n][0])
			same[n] = bytes.Equal(o.Bytes(), chapterTape(append(slices.Clone(lists[n]), lists[n][0])...))
		})
	}
	all.Wait()
	if slices.Contains(same, false) {
		t.Errorf("side by side: %v", same)
	}
}
