package store

import (
	"fmt"
	"math"
	"math/rand"
	"slices"
	"strings"
	"testing"

	"outcry/api"
)

func newStore(t *testing.T, keep int) *Store {
	t.Helper()
	s, e := New(keep)
	if e != api.OK || s == nil {
		t.Fatalf("New(%d) = %v, %d", keep, s, e)
	}
	return s
}

// numbered gives a message that is like no other.
func numbered(n int) api.Msg {
	return api.Msg{Kind: 1 + n%17, Seq: n, Sender: "A", Time: int64(n) * 7, Text: fmt.Sprint("text ", n), Qty: int64(n)}
}

// done makes a store by steps: p puts the next message, s skips its number.
func done(t *testing.T, keep int, steps string) *Store {
	t.Helper()
	s := newStore(t, keep)
	for _, step := range steps {
		n := s.Next()
		e := api.OK
		if step == 'p' {
			e = s.Put(numbered(n))
		} else {
			e = s.Skip()
		}
		if e != api.OK || s.Next() != n+1 {
			t.Fatalf("step %c at %d: %d, next %d", step, n, e, s.Next())
		}
	}
	return s
}

func p(n int) string { return strings.Repeat("p", n) }

func expect(t *testing.T, s *Store, from, to int, want string) {
	t.Helper()
	parts, e := s.Parts(from, to)
	if e != api.OK || told(parts) != want {
		t.Errorf("Parts(%d, %d) = %s, %d, want %s", from, to, told(parts), e, want)
	}
	for _, x := range parts {
		if x.M != (api.Msg{}) && x.M != numbered(x.From) {
			t.Errorf("Parts(%d, %d): the message %d is %+v", from, to, x.From, x.M)
		}
	}
}

func expectRefused(t *testing.T, s *Store, from, to int) {
	t.Helper()
	if parts, e := s.Parts(from, to); parts != nil || e != api.ErrArg {
		t.Errorf("Parts(%d, %d) = %v, %d", from, to, parts, e)
	}
}

func expectKept(t *testing.T, s *Store, next, kept, dropped int) {
	t.Helper()
	if k, d := s.Kept(); k != kept || d != dropped || s.Next() != next {
		t.Errorf("Kept() = %d, %d, Next() = %d, want %d, %d, %d", k, d, s.Next(), kept, dropped, next)
	}
}

func TestS1Keep(t *testing.T) {
	for _, keep := range []int{1, 2, 3, 100, 199, 200} {
		s := newStore(t, keep)
		expectKept(t, s, 1, 0, 0)
		expectRefused(t, s, 1, 0)
	}
	for _, keep := range []int{0, -1, -200, 201, 202, 256, 257, 1<<32 + 1, 1<<32 + 200, math.MinInt, math.MaxInt} {
		if s, e := New(keep); s != nil || e != api.ErrArg {
			t.Errorf("New(%d) = %v, %d", keep, s, e)
		}
	}
}

func TestS1EachKeepKeepsAsMany(t *testing.T) {
	for keep := 1; keep <= api.MaxKeep; keep++ {
		s := done(t, keep, p(keep))
		expectKept(t, s, keep+1, keep, 0)
		if parts, e := s.Parts(1, 0); e != api.OK || len(parts) != keep || slices.ContainsFunc(parts, isRow) {
			t.Errorf("%d kept: %s, %d", keep, told(parts), e)
		}
		s.Put(numbered(keep + 1))
		expectKept(t, s, keep+2, keep, 1)
		expect(t, s, 1, 2, "L1-1 2")
	}
}

func TestExamples(t *testing.T) {
	s := done(t, 2, "pspp")
	expectKept(t, s, 5, 2, 1)
	expect(t, s, 1, 0, "L1-1 S2-2 3 4")
	expect(t, s, 2, 3, "S2-2 3")
	expectRefused(t, s, 4, 5)
	expectRefused(t, s, 5, 0)
	expectRefused(t, s, 0, 3)
	expectRefused(t, s, 3, 2)
	if e := s.Put(numbered(4)); e != api.ErrOrder {
		t.Errorf("Put of 4: %d", e)
	}
	s.Put(numbered(5))
	s.Put(numbered(6))
	expect(t, s, 1, 0, "L1-1 S2-2 L3-4 5 6")
	expectRefused(t, newStore(t, 2), 1, 0)
}

func TestS2OtherNumbers(t *testing.T) {
	for _, steps := range []string{"", "p", "s", "pp", "psp", "ppps", "sss"} {
		s := done(t, 2, steps)
		next := s.Next()
		kept, dropped := s.Kept()
		before, _ := s.Parts(1, 0)
		for _, n := range []int{0, -1, -next, next - 1, next + 1, next + 2, next + 1<<32, next - 1<<32, api.MaxSeq, api.MaxSeq + 1, math.MinInt, math.MaxInt} {
			if e := s.Put(plain(n)); e != api.ErrOrder {
				t.Errorf("%q: Put of %d: %d", steps, n, e)
			}
		}
		expectKept(t, s, next, kept, dropped)
		if after, _ := s.Parts(1, 0); !slices.Equal(before, after) {
			t.Errorf("%q: %s, after refusals %s", steps, told(before), told(after))
		}
	}
}

// plain gives a message with a number, whatever that is.
func plain(n int) api.Msg { return api.Msg{Kind: api.NewOrder, Seq: n, Text: "x"} }

func TestS2AnyMessage(t *testing.T) {
	full := api.Msg{Kind: 8, Sender: "A", Target: "B", Dup: true, Time: 1, OrigTime: 2, Beat: 3, Reset: true, TestID: "x", Begin: 4, End: 5, Next: 6, Fill: true, RefSeq: 7, RefKind: 8, RefTag: 9, Reason: 10, Text: "t", ID: "i", OrigID: "o", Account: "a", Symbol: "S", Side: 1, Type: 2, Life: 3, Price: 11, Stop: 12, Qty: 13, Show: 14, Least: 15, Until: 16, OrderID: 17, ExecID: 18, Exec: 19, State: 20, LastPrice: 21, LastQty: 22, Left: 23, Done: 24, Phase: 25, Count: 26}
	wild := api.Msg{Kind: -1, Sender: "\x00|\xff", Target: strings.Repeat("x", 100000), Time: math.MinInt64, Price: math.MaxInt64, Next: math.MinInt}
	all := []api.Msg{full, wild, {}, {Kind: api.Heartbeat}, {Kind: 99}}
	s := newStore(t, len(all))
	for i := range all {
		all[i].Seq = i + 1
		if e := s.Put(all[i]); e != api.OK {
			t.Errorf("Put of %+v: %d", all[i], e)
		}
	}
	parts, e := s.Parts(1, 0)
	if e != api.OK || len(parts) != len(all) {
		t.Fatalf("%d, %d parts", e, len(parts))
	}
	for i, x := range parts {
		if want := (api.Part{From: i + 1, To: i + 1, M: all[i]}); x != want {
			t.Errorf("part %d: %+v, want %+v", i, x, want)
		}
	}
}

func TestS2DropsTheOldest(t *testing.T) {
	cases := []struct {
		keep                int
		steps               string
		next, kept, dropped int
		want                string
	}{
		{1, "p", 2, 1, 0, "1"},
		{1, "pp", 3, 1, 1, "L1-1 2"},
		{1, "ppp", 4, 1, 2, "L1-2 3"},
		{1, "ps", 3, 1, 0, "1 S2-2"},
		{1, "psssss", 7, 1, 0, "1 S2-6"},
		{1, "psp", 4, 1, 1, "L1-1 S2-2 3"},
		{1, "spsps", 6, 1, 1, "S1-1 L2-2 S3-3 4 S5-5"},
		{1, "spppsspp", 9, 1, 4, "S1-1 L2-4 S5-6 L7-7 8"},
		{2, "psp", 4, 2, 0, "1 S2-2 3"},
		{2, "pspp", 5, 2, 1, "L1-1 S2-2 3 4"},
		{2, "psppss", 7, 2, 1, "L1-1 S2-2 3 4 S5-6"},
		{2, "psppssp", 8, 2, 2, "L1-1 S2-2 L3-3 4 S5-6 7"},
		{2, "psppsspp", 9, 2, 3, "L1-1 S2-2 L3-4 S5-6 7 8"},
		{2, "psppssppp", 10, 2, 4, "L1-1 S2-2 L3-4 S5-6 L7-7 8 9"},
		{3, "sss", 4, 0, 0, "S1-3"},
		{3, "ppsp", 5, 3, 0, "1 2 S3-3 4"},
		{3, "pppppp", 7, 3, 3, "L1-3 4 5 6"},
		{200, "pppsss", 7, 3, 0, "1 2 3 S4-6"},
	}
	for _, c := range cases {
		s := done(t, c.keep, c.steps)
		expectKept(t, s, c.next, c.kept, c.dropped)
		expect(t, s, 1, 0, c.want)
		expect(t, s, 1, c.next-1, c.want)
	}
}

// The end of the numbers is come to in earnest, for skipped ones take no room.
func TestS2GreatestNumber(t *testing.T) {
	t.Parallel()
	s := nearTheEnd(t)
	for _, n := range []int{api.MaxSeq - 1, api.MaxSeq} {
		if e := s.Put(numbered(n)); e != api.OK {
			t.Errorf("Put of %d: %d", n, e)
		}
	}
	expectEnd(t, s, "L1-1 S2-2 L3-5 S6-999999997 999999998 999999999", 2, 4)
}

func TestS2GreatestNumberSkipped(t *testing.T) {
	t.Parallel()
	s := nearTheEnd(t)
	for range 2 {
		if e := s.Skip(); e != api.OK {
			t.Errorf("Skip of %d: %d", s.Next()-1, e)
		}
	}
	expectEnd(t, s, "L1-1 S2-2 L3-3 4 5 S6-999999999", 2, 2)
}

// nearTheEnd makes a store of which two numbers are left.
func nearTheEnd(t *testing.T) *Store {
	t.Helper()
	s := done(t, 2, "psppp")
	for s.Next() < api.MaxSeq-1 {
		if e := s.Skip(); e != api.OK {
			t.Fatalf("Skip at %d: %d", s.Next(), e)
		}
	}
	return s
}

func expectEnd(t *testing.T, s *Store, want string, kept, dropped int) {
	t.Helper()
	for range 2 {
		expectKept(t, s, api.MaxSeq+1, kept, dropped)
		expect(t, s, 1, 0, want)
		expect(t, s, 1, api.MaxSeq, want)
		expectRefused(t, s, 1, api.MaxSeq+1)
		expectRefused(t, s, api.MaxSeq+1, 0)
		if e := s.Skip(); e != api.ErrGreat {
			t.Errorf("Skip behind the last: %d", e)
		}
		if e := s.Put(plain(api.MaxSeq + 1)); e != api.ErrGreat {
			t.Errorf("Put behind the last: %d", e)
		}
		// Which of the two errors is told, where both apply.
		for _, n := range []int{0, 1, api.MaxSeq, api.MaxSeq + 2, math.MaxInt} {
			if e := s.Put(plain(n)); e != api.ErrOrder {
				t.Errorf("Put of %d behind the last: %d", n, e)
			}
		}
	}
}

func TestS3Next(t *testing.T) {
	s := newStore(t, 1)
	for n := 1; n <= 100; n++ {
		if s.Next() != n || s.Next() != n {
			t.Errorf("Next() = %d, want %d", s.Next(), n)
		}
		if n%3 == 0 {
			s.Skip()
			continue
		}
		s.Put(numbered(n))
	}
}

func TestS4WrongRows(t *testing.T) {
	far := []int{math.MinInt, math.MinInt + 1, -1 << 32, -2, -1}
	beyond := []int{9, 10, 1 << 31, 1<<32 + 1, api.MaxSeq, api.MaxSeq + 1, math.MaxInt - 1, math.MaxInt}
	s := done(t, 2, "pspsppsp") // Next is 9
	for _, from := range slices.Concat(far, []int{0}, beyond) {
		for _, to := range slices.Concat(far, []int{0, 1, 2, 8}, beyond) {
			expectRefused(t, s, from, to)
		}
	}
	for from := 1; from <= 8; from++ {
		for _, to := range slices.Concat(far, beyond) {
			expectRefused(t, s, from, to)
		}
		for to := 1; to < from; to++ {
			expectRefused(t, s, from, to)
		}
	}
	empty := newStore(t, 1)
	for from := -2; from < 4; from++ {
		for to := -2; to < 4; to++ {
			expectRefused(t, empty, from, to)
		}
	}
}

// Each row of numbers of a store that has all kinds of parts.
func TestS4EachRow(t *testing.T) {
	s := done(t, 2, "ssppspppss") // S1-2 L3-4 S5-5 L6-6 7 8 S9-10
	each := []string{"S1-1", "S2-2", "L3-3", "L4-4", "S5-5", "L6-6", "7", "8", "S9-9", "S10-10"}
	for i, want := range each {
		expect(t, s, i+1, i+1, want)
	}
	for _, c := range []struct {
		from, to int
		want     string
	}{
		{1, 0, "S1-2 L3-4 S5-5 L6-6 7 8 S9-10"}, {1, 10, "S1-2 L3-4 S5-5 L6-6 7 8 S9-10"},
		{2, 0, "S2-2 L3-4 S5-5 L6-6 7 8 S9-10"}, {10, 0, "S10-10"}, {9, 0, "S9-10"}, {8, 0, "8 S9-10"}, {6, 0, "L6-6 7 8 S9-10"},
		{1, 2, "S1-2"}, {1, 3, "S1-2 L3-3"}, {2, 3, "S2-2 L3-3"}, {3, 4, "L3-4"}, {4, 5, "L4-4 S5-5"}, {4, 6, "L4-4 S5-5 L6-6"},
		{4, 7, "L4-4 S5-5 L6-6 7"}, {5, 8, "S5-5 L6-6 7 8"}, {6, 9, "L6-6 7 8 S9-9"}, {7, 8, "7 8"}, {8, 9, "8 S9-9"}, {9, 10, "S9-10"}, {8, 10, "8 S9-10"},
	} {
		expect(t, s, c.from, c.to, c.want)
	}
}

func TestS5CountsPutsThatWereAnswered(t *testing.T) {
	s := newStore(t, 3)
	puts := 0
	for n := 1; n <= 50; n++ {
		s.Put(numbered(n + 1))
		s.Put(numbered(n - 1))
		if n%4 == 0 {
			s.Skip()
		} else {
			s.Put(numbered(n))
			puts++
		}
		expectKept(t, s, n+1, min(puts, 3), max(puts-3, 0))
	}
}

// hold asks a store and the second reading for all that can be asked about a few rows.
func hold(t *testing.T, s *Store, l *ledger, rows [][2]int) {
	t.Helper()
	kept, dropped := l.kept()
	expectKept(t, s, l.next(), kept, dropped)
	for _, r := range rows {
		got, e := s.Parts(r[0], r[1])
		want, wantE := l.parts(r[0], r[1])
		if e != wantE || !slices.Equal(got, want) {
			t.Fatalf("keep %d: Parts(%d, %d) = %s, %d, want %s, %d", l.keep, r[0], r[1], told(got), e, told(want), wantE)
		}
	}
}

// Every way to put and to skip eight numbers, and every row that may be asked for, and some that may not.
func TestS4AllStoresOfFewNumbers(t *testing.T) {
	t.Parallel()
	for keep := 1; keep <= 4; keep++ {
		for ways := range 1 << 8 {
			s, l := newStore(t, keep), &ledger{keep: keep}
			for n := 1; n <= 8; n++ {
				step(t, s, l, ways>>(n-1)&1 == 1)
			}
			var rows [][2]int
			for from := -1; from <= 10; from++ {
				for to := -1; to <= 10; to++ {
					rows = append(rows, [2]int{from, to})
				}
			}
			hold(t, s, l, rows)
		}
	}
}

// step does the same to a store and to the second reading.
func step(t *testing.T, s *Store, l *ledger, put bool) {
	t.Helper()
	if !put {
		l.skip()
		if e := s.Skip(); e != api.OK {
			t.Fatalf("Skip: %d", e)
		}
		return
	}
	m := numbered(l.next())
	if e, want := s.Put(m), l.put(m); e != want {
		t.Fatalf("Put: %d, want %d", e, want)
	}
}

func TestS4AgainstTheChapter(t *testing.T) {
	t.Parallel()
	r := rand.New(rand.NewSource(8))
	for range 300 {
		keep := []int{1, 2, 3, 5, 20, 200}[r.Intn(6)]
		s, l := newStore(t, keep), &ledger{keep: keep}
		puts := r.Float64()
		for range 1 + r.Intn(6) {
			row := 1 + r.Intn(60)
			put := r.Float64() < puts
			for range row {
				step(t, s, l, put != (r.Intn(5) == 0))
			}
			hold(t, s, l, someRows(r, l.next()))
		}
	}
}

// someRows gives rows, most of which may be asked for.
func someRows(r *rand.Rand, next int) [][2]int {
	rows := [][2]int{{1, 0}, {1, next - 1}, {next - 1, 0}, {next, 0}, {1, next}, {0, 0}}
	for range 10 {
		rows = append(rows, [2]int{r.Intn(next + 2), r.Intn(next + 2)}, [2]int{1 + r.Intn(next), next - 1 - r.Intn(2)})
	}
	return rows
}

func TestFollowsPutsAlone(t *testing.T) {
	t.Parallel()
	for _, keep := range []int{1, 2, 7, 200} {
		for _, n := range []int{1, 2, 6, 7, 8, 199, 200, 201, 450} {
			s := done(t, keep, p(n))
			parts, e := s.Parts(1, 0)
			if e != api.OK {
				t.Fatalf("%d", e)
			}
			if lost := n - keep; lost > 0 {
				if want := (api.Part{From: 1, To: lost, Lost: true}); parts[0] != want {
					t.Errorf("keep %d, %d put: %+v first", keep, n, parts[0])
				}
				parts = parts[1:]
			}
			if len(parts) != min(n, keep) {
				t.Errorf("keep %d, %d put: %s", keep, n, told(parts))
			}
			for i, x := range parts {
				at := n - len(parts) + 1 + i
				if want := (api.Part{From: at, To: at, M: numbered(at)}); x != want {
					t.Errorf("keep %d, %d put: %+v, want %+v", keep, n, x, want)
				}
			}
		}
	}
}

func TestFollowsPartsOfHalves(t *testing.T) {
	t.Parallel()
	s := done(t, 4, "sspppsppsspssspppspps")
	last := s.Next() - 1
	for from := 1; from <= last; from++ {
		for to := from + 1; to <= last; to++ {
			whole, _ := s.Parts(from, to)
			for cut := from; cut < to; cut++ {
				a, e1 := s.Parts(from, cut)
				b, e2 := s.Parts(cut+1, to)
				if both := joined(slices.Concat(a, b)); e1 != api.OK || e2 != api.OK || !slices.Equal(whole, both) {
					t.Errorf("Parts(%d, %d) = %s, cut at %d: %s", from, to, told(whole), cut, told(both))
				}
			}
		}
	}
}

// What a step costs does not hang on how many came ahead.
func TestP1ManyMessages(t *testing.T) {
	t.Parallel()
	s := newStore(t, 200)
	const many = 1000000
	for n := 1; n <= many; n++ {
		if e := s.Put(plain(n)); e != api.OK {
			t.Fatalf("Put of %d: %d", n, e)
		}
		if n%1000 != 0 {
			continue
		}
		if parts, e := s.Parts(1, 0); e != api.OK || len(parts) != 201 || parts[0] != (api.Part{From: 1, To: n - 200, Lost: true}) {
			t.Fatalf("%d put: %s, %d", n, told(parts), e)
		}
	}
}

func TestP1ManyRows(t *testing.T) {
	t.Parallel()
	s := newStore(t, 1)
	const many = 200000
	for n := 1; n <= many; n += 2 {
		s.Put(plain(n))
		s.Skip()
	}
	expectKept(t, s, many+1, 1, many/2-1)
	parts, e := s.Parts(1, 0)
	if e != api.OK || len(parts) != many {
		t.Fatalf("%d parts, %d", len(parts), e)
	}
	for i, x := range parts {
		want := api.Part{From: i + 1, To: i + 1, Lost: i%2 == 0}
		if i == many-2 {
			want = api.Part{From: i + 1, To: i + 1, M: plain(i + 1)}
		}
		if x != want {
			t.Fatalf("part %d: %+v, want %+v", i, x, want)
		}
	}
	for n := 1; n < many-2; n++ {
		if parts, _ := s.Parts(n, n+1); len(parts) != 2 || parts[0].From != n || parts[0].Lost != (n%2 == 1) || parts[1].Lost == parts[0].Lost {
			t.Fatalf("Parts(%d, %d) = %s", n, n+1, told(parts))
		}
	}
}

// Of what was dropped nothing stays but the numbers, as rows.
func TestP1NothingPilesUp(t *testing.T) {
	for _, keep := range []int{1, 2, 3, 200} {
		s := done(t, keep, p(5000)+strings.Repeat("s", 5000)+p(5000))
		if len(s.kept) != keep || cap(s.kept) > 3*keep+3 || len(s.lost) != 2 {
			t.Errorf("keep %d: %d kept, room for %d, %d rows", keep, len(s.kept), cap(s.kept), len(s.lost))
		}
	}
}

// The texts of a message that was dropped are let go, though its place is there for a while.
func TestP1DroppedTextsAreLetGo(t *testing.T) {
	seen := 0
	s := done(t, 3, p(3))
	for range 50 {
		front, room := s.kept[:1], cap(s.kept) > len(s.kept)
		s.Put(numbered(s.Next()))
		if !room {
			continue // the list has moved elsewhere
		}
		seen++
		if front[0] != (api.Msg{}) {
			t.Errorf("at %d: %+v", s.Next(), front[0])
		}
	}
	if seen == 0 {
		t.Error("nothing was seen")
	}
}

// scribble writes all over an answer and its spare room.
func scribble(parts []api.Part) {
	parts = parts[:cap(parts)]
	for i := range parts {
		parts[i] = api.Part{From: -1, To: -1, Lost: true, M: api.Msg{Seq: -1, Text: "spoilt"}}
	}
}

func TestP3AnswersAreNew(t *testing.T) {
	s := done(t, 3, "spppspppps")
	l := &ledger{keep: 3}
	for _, c := range "spppspppps" {
		if c == 's' {
			l.skip()
			continue
		}
		l.put(numbered(l.next()))
	}
	for from := 1; from <= 10; from++ {
		for to := from; to <= 10; to++ {
			first, _ := s.Parts(from, to)
			second, _ := s.Parts(from, to)
			copied := slices.Clone(second)
			scribble(first)
			_ = append(first, api.Part{From: -2}, api.Part{From: -3})
			if !slices.Equal(second, copied) {
				t.Errorf("Parts(%d, %d): two answers share", from, to)
			}
			hold(t, s, l, [][2]int{{1, 0}, {from, to}})
		}
	}
	for range 5 {
		step(t, s, l, true)
		hold(t, s, l, [][2]int{{1, 0}})
	}
}

func TestP3AnswersStayAsTheyWere(t *testing.T) {
	s := newStore(t, 3)
	var answers, copies [][]api.Part
	for n := 1; n <= 60; n++ {
		if n%5 == 0 {
			s.Skip()
		} else {
			s.Put(numbered(n))
		}
		for _, from := range []int{1, max(1, n-2)} {
			parts, _ := s.Parts(from, 0)
			answers, copies = append(answers, parts), append(copies, slices.Clone(parts))
		}
	}
	for i := range answers {
		if !slices.Equal(answers[i], copies[i]) {
			t.Errorf("answer %d was %s, is %s", i, told(copies[i]), told(answers[i]))
		}
	}
}

// Asking changes nothing, whatever is asked.
func TestP4AskingChangesNothing(t *testing.T) {
	const steps = "pspppsspppsp"
	s, l := newStore(t, 2), &ledger{keep: 2}
	for _, c := range steps {
		step(t, s, l, c == 'p')
		for from := -1; from <= l.next(); from++ {
			for to := -1; to <= l.next(); to++ {
				s.Parts(from, to)
				s.Kept()
				s.Next()
			}
		}
		hold(t, s, l, [][2]int{{1, 0}})
	}
}

func TestP4StoresAreAlone(t *testing.T) {
	r := rand.New(rand.NewSource(4))
	var stores []*Store
	var ledgers []*ledger
	for _, keep := range []int{1, 1, 2, 2, 5, 200} {
		stores, ledgers = append(stores, newStore(t, keep)), append(ledgers, &ledger{keep: keep})
	}
	for range 400 {
		i := r.Intn(len(stores))
		step(t, stores[i], ledgers[i], r.Intn(3) > 0)
		for k := range stores {
			if ledgers[k].next() > 1 {
				hold(t, stores[k], ledgers[k], [][2]int{{1, 0}})
			}
		}
	}
}
