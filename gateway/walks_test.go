package gateway

import (
	"bytes"
	"fmt"
	"math"
	"math/rand"
	"slices"
	"strings"
	"testing"

	"outcry/api"
	"outcry/fields"
	"outcry/framer"
)

// walker does calls at random of a gateway, and of what the chapter says of it.
type walker struct {
	*rand.Rand
	t     *testing.T
	g     *Gateway
	r     *reading
	firms []Firm
	now   int64
	calm  int // the greater, the more seldom time leaps
	names int
	past  []string
	seen  map[string]int // what went out, over many walks
}

func pick[T any](w *walker, l ...T) T { return l[w.Intn(len(l))] }

func (w *walker) oneIn(n int) bool { return w.Intn(n) == 0 }

// someFirms: of the accounts the engine knows most.
func (w *walker) someFirms() []Firm {
	l := []Firm{{Name: "F1", Accounts: []string{"A1", "A2"}}, {Name: "F2", Accounts: []string{"B1", "GHOST"}}, {Name: "F3", Accounts: []string{"Z"}}}
	for n := range l {
		l[n].Keep = pick(w, 1, 2, 5, 50, 200)
	}
	return l[:1+w.Intn(3)]
}

func newWalker(t *testing.T, seed int64, seen map[string]int) *walker {
	t.Helper()
	w := &walker{Rand: rand.New(rand.NewSource(seed)), t: t, seen: seen}
	w.firms = w.someFirms()
	w.calm = pick(w, 20, 100, 500)
	w.now = pick[int64](w, 0, wednesday-hour, nine-10*minute, nine, nine, nine+hour, wednesday+16*hour+39*minute, api.MaxTime-2*day)
	one, two := newEngine(t), newEngine(t)
	for n := range w.Intn(6) { // orders that the gateway has not heard of, of its firms and of others
		c := api.Command{Kind: api.DoNew, Time: w.now, Owner: pick(w, 1, 2, 9), O: api.Order{Name: fmt.Sprint("old", n), Account: pick(w, "A1", "Z"), Symbol: "ABC", Side: 1 + w.Intn(2), Type: api.Limit, Life: api.Day, Price: 98 + w.Int63n(5), Qty: 1 + w.Int63n(9)}}
		one.Do(c)
		two.Do(c)
	}
	g, e := New("EX", w.firms, one)
	if e != api.OK {
		t.Fatalf("New: %d", e)
	}
	w.g, w.r = g, newReading("EX", w.firms, two)
	return w
}

// differ ends the walk, with all steps up to here.
func (w *walker) differ(form string, a ...any) {
	w.t.Helper()
	w.t.Fatalf("%s\n%s", strings.Join(w.past, "\n"), fmt.Sprintf(form, a...))
}

func (w *walker) step(form string, a ...any) {
	w.past = append(w.past, fmt.Sprintf("at %d: %s", w.now, fmt.Sprintf(form, a...)))
}

func (w *walker) same(got, want api.Errno) {
	w.t.Helper()
	if got != want {
		w.differ("answers %d, want %d", got, want)
	}
	for place := 1; place < len(w.r.sessions); place++ {
		if got, want := w.g.firms[place-1].View(), w.r.sessions[place].View(); got != want {
			w.differ("the session of %d is %+v, want %+v", place, got, want)
		}
	}
	if w.g.executions != w.r.made {
		w.differ("%d Executions, want %d", w.g.executions, w.r.made)
	}
}

// time moves the time on, or back, and gives what the next call is told.
func (w *walker) time() int64 {
	if w.oneIn(60) {
		return pick[int64](w, -1, tooLate, math.MinInt64, math.MaxInt64)
	}
	switch {
	case w.oneIn(12 * w.calm):
		w.now += pick[int64](w, day, 40*day, 3*hour)
	case w.oneIn(3 * w.calm):
		w.now += w.Int63n(40) * minute
	case w.oneIn(8):
		w.now += pick[int64](w, 30*second, 36*second, 10*second, 9999, 29999)
	case w.oneIn(3):
		w.now += w.Int63n(900)
	case w.oneIn(9):
		return max(0, w.now-w.Int63n(9000))
	}
	w.now = min(w.now, api.MaxTime)
	return w.now
}

// open gives the numbers of connections that are as asked.
func (w *walker) open(is string) []int {
	var all []int
	for n, l := range w.r.lines {
		if l.is == is {
			all = append(all, n)
		}
	}
	return all
}

// conn gives the number of a connection, most often of one that is there.
func (w *walker) conn() int {
	if w.oneIn(50) {
		return pick(w, 0, -1, len(w.r.lines), math.MaxInt, math.MinInt, 1)
	}
	all := slices.Concat(w.open("open"), w.open("bound"), w.open("refused"))
	if len(all) == 0 {
		return 1
	}
	return pick(w, all...)
}

func (w *walker) connect() {
	kind, now := 1+w.Intn(2), w.time()
	if w.oneIn(30) {
		kind = pick(w, 0, 3, -1)
	}
	w.step("Connect(%d, %d)", kind, now)
	got, e := w.g.Connect(kind, now)
	want, f := w.r.connect(kind, now)
	if got != want {
		w.differ("answers %d, want %d", got, want)
	}
	w.same(e, f)
}

func (w *walker) bytes(conn int, b []byte) {
	now := w.time()
	w.step("Bytes(%d, %q, %d)", conn, b, now)
	w.same(w.g.Bytes(conn, b, now), w.r.bytes(conn, b, now))
}

func (w *walker) hangup() {
	conn, now := w.conn(), w.time()
	w.step("Hangup(%d, %d)", conn, now)
	w.same(w.g.Hangup(conn, now), w.r.hangup(conn, now))
}

func (w *walker) tick() {
	now := w.time()
	w.step("Tick(%d)", now)
	w.same(w.g.Tick(now), w.r.tick(now))
}

func (w *walker) out(conn int) {
	w.step("Out(%d)", conn)
	kind := framer.Text
	if l := w.r.line(conn); l != nil {
		kind = l.kind
	}
	got, ends, e := w.g.Out(conn)
	want, last, f := w.r.out(conn)
	if !bytes.Equal(got, want) || ends != last {
		w.differ("gives\n%q, %v, want\n%q, %v", got, ends, want, last)
	}
	w.same(e, f)
	w.count(kind, got)
}

// count notes what went out, so that it can be said that walks come across all there is.
func (w *walker) count(kind int, b []byte) {
	f, _ := framer.New(kind)
	for _, x := range f.Feed(b) {
		m, _ := decode(kind, x.Bytes)
		w.seen[fmt.Sprint(m.Kind)]++
		switch m.Kind {
		case api.Execution:
			w.seen[fmt.Sprint("exec ", m.Exec, " state ", m.State)]++
		case api.CancelReject:
			w.seen[fmt.Sprint("no, state ", m.State)]++
		case api.Refused:
			w.seen[fmt.Sprint("reason ", m.Reason, " tag ", m.Text != "")]++
		}
	}
}

// told holds what was done since the last time against what was to be.
func (w *walker) told() {
	w.step("Commands, Events")
	if got := w.g.Commands(); !slices.Equal(got, w.r.commands) {
		w.differ("commands\n%+v, want\n%+v", got, w.r.commands)
	}
	if got := w.g.Events(); !slices.Equal(got, w.r.events) {
		w.differ("events\n%+v, want\n%+v", got, w.r.events)
	}
	w.r.commands, w.r.events = nil, nil
}

// name gives an order's name, most often a new one if it is asked for.
func (w *walker) name(fresh bool) string {
	if fresh && !w.oneIn(12) {
		w.names++
		return fmt.Sprint("n", w.names)
	}
	if w.oneIn(20) {
		return fmt.Sprint("old", w.Intn(6))
	}
	return fmt.Sprint("n", max(1, w.names-w.Intn(6)))
}

func (w *walker) account(place int) string {
	if w.oneIn(15) {
		return pick(w, "A1", "B1", "GHOST", "Z", "NOBODY")
	}
	return pick(w, w.firms[place-1].Accounts...)
}

func (w *walker) symbol() string { return pick(w, "ABC", "ABC", "ABC", "ABC", "ABC", "XY", "NONE") }

// newOrder: most of them can come, and many trade.
func (w *walker) newOrder(place int) api.Msg {
	m := api.Msg{Kind: api.NewOrder, ID: w.name(true), Account: w.account(place), Symbol: w.symbol(), Side: 1 + w.Intn(2), Qty: 1 + w.Int63n(20)}
	if m.Symbol == "XY" {
		m.Qty *= 10
	}
	m.Type, m.Life, m.Price = api.Limit, pick(w, api.Day, api.Day, api.GTC, api.IOC, api.PostOnly, api.GTD, api.AtOpen, api.FOK), 95+w.Int63n(11)
	switch w.Intn(8) {
	case 0:
		m.Type, m.Price, m.Life = api.Market, 0, pick(w, api.IOC, api.FOK, api.AtOpen, api.Day)
	case 1:
		m.Type, m.Stop, m.Price, m.Life = api.Stop, 95+w.Int63n(11), 0, pick(w, api.Day, api.GTC)
	case 2:
		m.Type, m.Stop, m.Life = api.StopLimit, 95+w.Int63n(11), pick(w, api.Day, api.GTC)
	}
	if m.Life == api.GTD {
		m.Until = pick(w, 20240103, 20240104, 20231231)
	}
	if w.oneIn(6) {
		m.Show = 1 + w.Int63n(m.Qty)
	}
	if w.oneIn(12) {
		m.Least = 1 + w.Int63n(m.Qty)
	}
	return m
}

// message gives what a firm may say.
func (w *walker) message(place int) api.Msg {
	side := 1 + w.Intn(2)
	switch n := w.Intn(100); {
	case n < 50:
		return w.newOrder(place)
	case n < 60:
		return api.Msg{Kind: api.CancelOrder, ID: w.name(true), OrigID: w.name(false), Symbol: w.symbol(), Side: side}
	case n < 72:
		return api.Msg{Kind: api.ReplaceOrder, ID: w.name(true), OrigID: w.name(false), Symbol: w.symbol(), Side: side, Qty: 1 + w.Int63n(25), Price: pick[int64](w, 0, 98, 100, 102), Stop: pick[int64](w, 0, 0, 0, 101)}
	case n < 76:
		return api.Msg{Kind: api.MassCancel, ID: w.name(true), Account: pick(w, "", "", w.account(place)), Symbol: pick(w, "", "", w.symbol()), Side: pick(w, 0, side)}
	case n < 83:
		return api.Msg{Kind: api.AskStatus, ID: w.name(false), Symbol: w.symbol(), Side: side}
	case n < 89:
		return pick(w, kinds()[api.Execution-1:]...)
	case n < 96:
		return api.Msg{Kind: api.ResendRequest, Begin: 1 + w.Intn(w.r.sessions[place].View().Out+1), End: 0}
	}
	return pick(w, api.Msg{Kind: api.Heartbeat}, api.Msg{Kind: api.TestRequest, TestID: "x"}, api.Msg{Kind: api.Logout}, logon(), api.Msg{Kind: api.SequenceReset, Fill: !w.oneIn(4), Next: 1 + w.Intn(30), Text: pick(w, "", "lost")})
}

// sign gives a message what goes with a firm's session, most often its next number.
func (w *walker) sign(m api.Msg, place int) api.Msg {
	m.Sender, m.Target, m.Time = w.firms[place-1].Name, "EX", min(w.now, api.MaxTime)
	m.Seq = w.r.sessions[place].View().In
	if w.oneIn(12) {
		m.Seq += w.Intn(4)
	}
	if w.oneIn(60) {
		m.Seq = max(1, m.Seq-1-w.Intn(3))
	}
	if w.oneIn(30) {
		m.Dup = true
	}
	if w.oneIn(120) {
		m.Sender = pick(w, "F1", "F2", "F3", "EX", "F9")
	}
	if w.oneIn(150) {
		m.Target = pick(w, "F1", "EXX")
	}
	return m
}

// spoilt makes a frame wrong in which a message stood.
func (w *walker) spoilt(kind int, b []byte) []byte {
	if kind == framer.Binary || w.oneIn(5) {
		at := w.Intn(len(b))
		if kind == framer.Binary && at >= 10 && w.oneIn(2) {
			return spoil(b, at, byte(w.Intn(256)))
		}
		b[at] ^= byte(1 + w.Intn(255))
		return b
	}
	l, _ := fields.Split(b)
	for range 1 + w.Intn(2) {
		at := w.Intn(len(l))
		switch w.Intn(4) {
		case 0:
			l = slices.Delete(l, at, at+1)
		case 1:
			l = append(l, l[at])
		case 2:
			l[at].Value = pick(w, "x", "0", "-1", "Z", "9")
		case 3:
			l = append(l, api.Field{Tag: pick(w, 9000, 54, 58, 112, 43, 99), Value: pick(w, "1", "Y", "x")})
		}
		if len(l) == 0 {
			break
		}
	}
	if x, e := fields.Join(l); e == api.OK {
		return x
	}
	return b
}

// talk sends something over a connection, in one piece or in more.
func (w *walker) talk(conn int, l ...api.Msg) {
	kind := w.r.line(conn).kind
	var stream []byte
	for _, m := range l {
		b, e := encode(kind, m)
		if e != api.OK {
			continue
		}
		if w.oneIn(14) {
			b = w.spoilt(kind, b)
		}
		stream = append(stream, b...)
		if w.oneIn(40) {
			stream = append(stream, "noise8=OC"[w.Intn(9):]...)
		}
	}
	for len(stream) > 0 && w.r.line(conn) != nil {
		n := len(stream)
		if w.oneIn(9) {
			n = 1 + w.Intn(n)
		}
		w.bytes(conn, stream[:n])
		stream = stream[n:]
		if w.oneIn(90) {
			return // what stands half is never made whole
		}
	}
}

// logon lets a firm log on over a connection, or try to.
func (w *walker) logon() {
	all := w.open("open")
	if len(all) == 0 {
		w.connect()
		return
	}
	conn, place := pick(w, all...), 1+w.Intn(len(w.firms))
	m := w.sign(logon(), place)
	if w.oneIn(25) {
		m.Beat = 29
	}
	if w.oneIn(25) {
		m = w.sign(w.message(place), place)
	}
	w.talk(conn, m)
}

func (w *walker) says() {
	all := w.open("bound")
	if len(all) == 0 {
		w.logon()
		return
	}
	conn := pick(w, all...)
	place := w.r.line(conn).place
	var l []api.Msg
	for n := range 1 + w.Intn(pick(w, 1, 1, 4)) {
		m := w.sign(w.message(place), place)
		m.Seq += n
		l = append(l, m)
	}
	w.talk(conn, l...)
}

func (w *walker) act() {
	switch n := w.Intn(100); {
	case n < 55:
		w.says()
	case n < 65:
		w.logon()
	case n < 68:
		w.connect()
	case n < 85:
		w.out(w.conn())
	case n < 94:
		w.tick()
	case n < 96:
		w.hangup()
	case n < 97:
		w.bytes(w.conn(), []byte("8=FIX.4.4\x019=5\x01OC\x00\x52\x01"[:w.Intn(20)]))
	default:
		w.told()
	}
}

func TestWalks(t *testing.T) {
	const parts, walks = 4, 70
	var seen [parts]map[string]int
	t.Run("all", func(t *testing.T) {
		for part := range parts {
			seen[part] = map[string]int{}
			t.Run(fmt.Sprint(part), func(t *testing.T) {
				t.Parallel()
				for walk := range walks {
					newWalker(t, int64(part*walks+walk), seen[part]).walk(300)
				}
			})
		}
	})
	// A walk that does not come across something says nothing of it.
	for _, what := range []string{
		"1", "2", "3", "5", "6", "7", "13", "14", "15", "16", "17",
		"exec 1 state 1", "exec 2 state 5", "exec 3 state 2", "exec 3 state 3", "exec 4 state 4", "exec 5 state 1", "exec 5 state 2",
		"exec 6 state 1", "exec 7 state 6", "exec 8 state 1", "exec 8 state 2", "no, state 1", "no, state 2", "no, state 5",
		"reason 30 tag false", "reason 121 tag false", "reason 0 tag true", "reason 1 tag true", "reason 2 tag true", "reason 5 tag true", "reason 11 tag true", "reason 13 tag true",
	} {
		sum := 0
		for _, part := range seen {
			sum += part[what]
		}
		if sum < 5 {
			t.Errorf("%s: %d times alone", what, sum)
		}
		t.Logf("%s: %d", what, sum)
	}
}

// walk does so many calls, and takes all that goes out and was done in the end.
func (w *walker) walk(calls int) {
	for range calls {
		w.act()
	}
	for conn := range w.r.lines {
		w.out(conn)
	}
	w.told()
}
