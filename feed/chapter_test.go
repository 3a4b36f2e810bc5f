package feed

import (
	"encoding/binary"
	"fmt"
	"hash/crc32"
	"math"
	"math/rand"
	"slices"
	"testing"

	"outcry/api"
)

// A second reading of the chapter, by other means, against which the package is held: what a feed is to tell, and who hears it.

// saying is a notice with its numbers as they are: nothing in it is a difference but the quantity and the orders of a level.
type saying struct {
	kind, place, side int
	numbers           []int64 // the price first, but of a phase
}

// shown is what is told of all instruments, by places.
type shown struct {
	Phase  [8]int64
	Traded [8]bool
	Last   [8][3]int64              // price, quantity, all
	Levels [8][3]map[int64][2]int64 // by side and price: quantity, orders
}

func (s *shown) level(place, side int, price int64) [2]int64 { return s.Levels[place][side][price] }

func (s *shown) setLevel(place, side int, price int64, is [2]int64) {
	if is[1] == 0 {
		delete(s.Levels[place][side], price)
		return
	}
	if s.Levels[place][side] == nil {
		s.Levels[place][side] = map[int64][2]int64{}
	}
	s.Levels[place][side][price] = is
}

func (s *shown) trade(place int, price, qty int64) {
	all := s.Last[place][2]
	if sum := all + qty; qty >= 0 == (sum >= all) {
		all = sum
	}
	s.Traded[place], s.Last[place] = true, [3]int64{price, qty, all}
}

// String has all of it, whatever the order of the maps; a side that had levels is as one that never had.
func (s *shown) String() string {
	text := fmt.Sprint(s.Phase, s.Traded, s.Last)
	for place := range s.Levels {
		for side := range s.Levels[place] {
			for _, price := range pricesOf(s, place, side) {
				text += fmt.Sprint(" ", place, " ", side, " ", price, s.level(place, side, price))
			}
		}
	}
	return text
}

// pricesOf gives the prices of a side, rising.
func pricesOf(s *shown, place, side int) []int64 {
	var l []int64
	for price := range s.Levels[place][side] {
		l = append(l, price)
	}
	slices.Sort(l)
	return l
}

func (s *shown) copy() *shown {
	c := *s
	for place := range c.Levels {
		for side := range c.Levels[place] {
			c.Levels[place][side] = nil
			for price, is := range s.Levels[place][side] {
				c.setLevel(place, side, price, is)
			}
		}
	}
	return &c
}

// chapterFeed is what a feed knows.
type chapterFeed struct {
	symbols []string
	next    int
	told    *shown
	packets []string // all of them, of changes
}

func newChapterFeed(symbols ...string) *chapterFeed {
	return &chapterFeed{symbols: symbols, next: 1, told: &shown{}}
}

// say tells what is said of an event, and takes it in.
func (c *chapterFeed) say(e api.Event) (saying, bool) {
	place := slices.Index(c.symbols, e.Symbol)
	switch {
	case place < 0:
	case e.Kind == 3 && e.Side == 1:
		c.told.trade(place, e.F.Price, e.F.Qty)
		return saying{kind: 2, place: place, numbers: []int64{e.F.Price, e.F.Qty}}, true
	case e.Kind == 8:
		c.told.Phase[place] = int64(e.Phase)
		return saying{kind: 3, place: place, numbers: []int64{int64(e.Phase)}}, true
	case e.Kind == 10:
		return saying{kind: 4, place: place, numbers: []int64{e.Level.Price, e.Level.Qty, e.F.Qty, int64(e.Side)}}, true
	case e.Kind == 9 && (e.Side == 1 || e.Side == 2) && e.Level.Price >= 1 && e.Level.Price <= 1000000000:
		is := [2]int64{e.Level.Qty, int64(e.Level.Orders)}
		if e.Level.Orders < 1 {
			is = [2]int64{}
		}
		was := c.told.level(place, e.Side, e.Level.Price)
		c.told.setLevel(place, e.Side, e.Level.Price, is)
		return saying{kind: 1, place: place, side: e.Side, numbers: []int64{e.Level.Price, is[0] - was[0], is[1] - was[1]}}, is != was
	}
	return saying{}, false
}

func (c *chapterFeed) tell(l []api.Event, now int64) []string {
	was := c.told.copy()
	var said []saying
	for _, e := range l {
		if s, ok := c.say(e); ok {
			said = append(said, s)
		}
	}
	var packets []string
	for len(said) > 0 {
		many := howMany(said, now)
		packets = append(packets, chapterPacket(c.next+len(packets), 1, 0, 0, now, said[:many]))
		said = said[many:]
	}
	if c.next+len(packets)-1 > 999999999 {
		c.told = was
		return nil
	}
	c.next += len(packets)
	c.packets = append(c.packets, packets...)
	return packets
}

func (c *chapterFeed) snapshot(now int64) []string {
	var said []saying
	for place := range c.symbols {
		said = append(said, saying{kind: 3, place: place, numbers: []int64{c.told.Phase[place]}})
		if c.told.Traded[place] {
			said = append(said, saying{kind: 5, place: place, numbers: c.told.Last[place][:]})
		}
		for side := 1; side <= 2; side++ {
			prices := pricesOf(c.told, place, side)
			if side == 1 {
				slices.Reverse(prices)
			}
			for _, price := range prices {
				is := c.told.level(place, side, price)
				said = append(said, saying{kind: 1, place: place, side: side, numbers: []int64{price, is[0], is[1]}})
			}
		}
	}
	var parts [][]saying
	for len(said) > 0 {
		many := howMany(said, now)
		parts = append(parts, said[:many])
		said = said[many:]
	}
	if len(parts) > 255 {
		return nil
	}
	var packets []string
	for i, part := range parts {
		packets = append(packets, chapterPacket(c.next-1, 2, i, len(parts), now, part))
	}
	return packets
}

func (c *chapterFeed) again(from, to int) []string {
	var l []string
	first := c.next - len(c.packets)
	for i, packet := range c.packets {
		if n := first + i; n >= from && n <= to && n >= c.next-200 {
			l = append(l, packet)
		}
	}
	return l
}

// howMany tells how many of the first sayings go into one packet.
func howMany(l []saying, now int64) int {
	many := 1
	for many < len(l) && len(chapterPacket(1, 1, 0, 0, now, l[:many+1])) <= 400 {
		many++
	}
	return many
}

// chapterPacket writes a packet, however long it is.
func chapterPacket(number, kind, part, parts int, now int64, l []saying) string {
	b := binary.BigEndian.AppendUint32(nil, uint32(number))
	b = binary.AppendVarint(append(b, byte(kind), byte(part), byte(parts)), now)
	prices := map[int]int64{}
	for _, s := range l {
		b = append(b, byte(s.kind), byte(s.place))
		if s.kind == 1 {
			b = append(b, byte(s.side))
		}
		for i, n := range s.numbers {
			if i == 0 && s.kind != 3 {
				n -= prices[s.place]
				prices[s.place] = s.numbers[0]
			}
			b = binary.AppendVarint(b, n)
		}
	}
	return string(binary.BigEndian.AppendUint32(b, crc32.ChecksumIEEE(b)))
}

// listener is somebody who hears packets, all of which must be right.
type listener struct {
	t      *testing.T
	many   int // instruments
	number int // of the last packet
	heard  *shown
	prices [8]int64
	rest   []byte
}

func newListener(t *testing.T, many int) *listener {
	return &listener{t: t, many: many, heard: &shown{}}
}

func (l *listener) byte() int {
	l.t.Helper()
	if len(l.rest) == 0 {
		l.t.Fatal("a packet ends within a notice")
	}
	n := l.rest[0]
	l.rest = l.rest[1:]
	return int(n)
}

func (l *listener) value() int64 {
	l.t.Helper()
	n, size := binary.Varint(l.rest)
	if size <= 0 || len(binary.AppendVarint(nil, n)) != size {
		l.t.Fatalf("no number: %x", l.rest)
	}
	l.rest = l.rest[size:]
	return n
}

func (l *listener) price(place int) int64 {
	l.t.Helper()
	l.prices[place] += l.value()
	return l.prices[place]
}

// open takes the frame of a packet off, and tells its kind, part and parts.
func (l *listener) open(packet []byte, now int64) (kind, part, parts int) {
	l.t.Helper()
	end := len(packet) - 4
	if len(packet) < 12 || len(packet) > 400 || binary.BigEndian.Uint32(packet[end:]) != crc32.ChecksumIEEE(packet[:end]) {
		l.t.Fatalf("%d bytes are no packet: %x", len(packet), packet)
	}
	l.rest, l.prices = packet[7:end], [8]int64{}
	if at := l.value(); at != now {
		l.t.Fatalf("the time of a packet: %d, want %d", at, now)
	}
	if len(l.rest) == 0 {
		l.t.Fatal("a packet without a notice")
	}
	return int(packet[4]), int(packet[5]), int(packet[6])
}

// hear takes packets of changes in, which must follow one another.
func (l *listener) hear(packets [][]byte, now int64) {
	l.t.Helper()
	for _, packet := range packets {
		kind, part, parts := l.open(packet, now)
		number := int(binary.BigEndian.Uint32(packet))
		if kind != 1 || part != 0 || parts != 0 || number != l.number+1 {
			l.t.Fatalf("behind %d: %x", l.number, packet[:7])
		}
		l.number = number
		for len(l.rest) > 0 {
			l.notice(" 1 2 3 4 ")
		}
	}
}

// join takes a whole snapshot in, in the place of all it had heard.
func (l *listener) join(packets [][]byte, now int64) {
	l.t.Helper()
	l.heard = &shown{}
	for i, packet := range packets {
		kind, part, parts := l.open(packet, now)
		l.number = int(binary.BigEndian.Uint32(packet))
		if kind != 2 || part != i || parts != len(packets) || l.number != int(binary.BigEndian.Uint32(packets[0])) {
			l.t.Fatalf("part %d of %d: %x", i, len(packets), packet[:7])
		}
		for len(l.rest) > 0 {
			l.notice(" 1 3 5 ")
		}
	}
}

func (l *listener) notice(kinds string) {
	l.t.Helper()
	kind, place := l.byte(), l.byte()
	if place >= l.many || !slices.Contains(splitKinds(kinds), kind) {
		l.t.Fatalf("a notice of the kind %d, of the place %d", kind, place)
	}
	switch kind {
	case 1:
		side := l.byte()
		price := l.price(place)
		was := l.heard.level(place, side, price)
		is := [2]int64{was[0] + l.value(), was[1] + l.value()}
		if side < 1 || side > 2 || price < 1 || price > api.MaxPrice || is[1] < 0 || is == was {
			l.t.Fatalf("a level of the side %d at %d: %v, then %v", side, price, was, is)
		}
		l.heard.setLevel(place, side, price, is)
	case 2:
		price := l.price(place)
		l.heard.trade(place, price, l.value())
	case 3:
		l.heard.Phase[place] = l.value()
	case 4:
		l.price(place)
		l.value()
		l.value()
		l.value()
	case 5:
		l.heard.Traded[place], l.heard.Last[place] = true, [3]int64{l.price(place), l.value(), l.value()}
	}
}

func splitKinds(s string) []int {
	var l []int
	for _, c := range s {
		if c != ' ' {
			l = append(l, int(c-'0'))
		}
	}
	return l
}

// anyNumber is one of any size, near 0 or at an end more often than not.
func anyNumber(r *rand.Rand) int64 {
	edges := []int64{0, 1, -1, 63, 64, -64, -65, 8191, 8192, math.MaxInt64, math.MinInt64, math.MaxInt64 - 1, math.MinInt64 + 1, api.MaxPrice, api.MaxTime}
	if r.Intn(4) == 0 {
		return edges[r.Intn(len(edges))]
	}
	return int64(r.Uint64()) >> r.Intn(64)
}

func anyPrice(r *rand.Rand) int64 {
	switch r.Intn(8) {
	case 0:
		return anyNumber(r)
	case 1:
		return 1 + r.Int63n(api.MaxPrice)
	case 2:
		return []int64{0, 1, api.MaxPrice, api.MaxPrice + 1}[r.Intn(4)]
	}
	return 1000 + r.Int63n(12)
}

// anyEvent makes one up, of which most are told.
func anyEvent(r *rand.Rand, symbols []string) api.Event {
	e := api.Event{
		Kind: []int{api.EvLevel, api.EvLevel, api.EvLevel, api.EvLevel, api.EvTrade, api.EvPhase, api.EvAuction, r.Intn(14) - 1}[r.Intn(8)],
		Side: []int{1, 2, 1, 2, 1, 2, 1, 2, r.Intn(6) - 2}[r.Intn(9)], Symbol: symbols[r.Intn(len(symbols))],
		Owner: r.Intn(3), Name: "n", O: api.Order{ID: 3, Side: 1 + r.Intn(2), Price: anyPrice(r), Qty: 7},
		F:     api.Fill{Buy: 1, Sell: 2, Taker: r.Intn(3), Price: anyPrice(r), Qty: anyNumber(r)},
		Level: api.Level{Price: anyPrice(r), Qty: anyNumber(r), Orders: r.Intn(4)}, Phase: r.Intn(6), Count: r.Intn(3),
	}
	switch r.Intn(16) {
	case 0:
		e.Symbol = []string{"", "NO", "abc", "ABC "}[r.Intn(4)]
	case 1:
		e.Level.Orders, e.Phase, e.Side = int(anyNumber(r)), int(anyNumber(r)), int(anyNumber(r))
	case 2, 3:
		e.Level.Orders = 0
	case 4, 5, 6, 7:
		e.Level.Qty = 1 + r.Int63n(3)
	}
	return e
}

// TestAgainstTheChapter holds all calls against the second reading, over many walks of any events, and listeners who hear all.
func TestAgainstTheChapter(t *testing.T) {
	all := []string{"ABC", "XY", "Z9", "A", "B", "C", "D", "E"}
	manyPackets, manyParts := 0, 0
	for seed := range int64(100) {
		r := rand.New(rand.NewSource(seed))
		symbols := all[:1+r.Intn(8)]
		f, c := newFeed(t, symbols...), newChapterFeed(symbols...)
		first, late := newListener(t, len(symbols)), newListener(t, len(symbols))
		for range 40 {
			var l []api.Event
			for range r.Intn([]int{2, 5, 20, 150}[r.Intn(4)]) {
				l = append(l, anyEvent(r, symbols))
			}
			now := anyNumber(r)
			told := f.Tell(l, now)
			same(t, "Tell", told, c.tell(l, now)...)
			manyPackets += len(told)
			first.hear(told, now)
			late.hear(told, now)
			if first.heard.String() != c.told.String() || late.heard.String() != c.told.String() {
				t.Fatalf("walk %d: who heard all has\n%v, who joined\n%v, told was\n%v", seed, first.heard, late.heard, c.told)
			}
			parts := f.Snapshot(now)
			same(t, "Snapshot", parts, c.snapshot(now)...)
			manyParts += len(parts)
			if r.Intn(4) == 0 {
				late = newListener(t, len(symbols))
				late.join(parts, now)
			}
			from, to := c.next-r.Intn(250), c.next+5-r.Intn(200)
			same(t, "Again", f.Again(from, to), c.again(from, to)...)
			if f.Next() != c.next {
				t.Fatalf("Next: %d, want %d", f.Next(), c.next)
			}
		}
	}
	if manyPackets < 3000 || manyParts < 8000 {
		t.Errorf("only %d packets, and %d parts", manyPackets, manyParts)
	}
}

// TestD3NearTheLastNumber walks up to the last number: what has no numbers is not told, and is not taken in.
func TestD3NearTheLastNumber(t *testing.T) {
	refused, reached := 0, 0
	for seed := range int64(200) {
		r := rand.New(rand.NewSource(seed))
		f, c := newFeed(t, "ABC", "XY"), newChapterFeed("ABC", "XY")
		f.next = api.MaxSeq - r.Intn(30)
		c.next = f.next
		for range 30 {
			var l []api.Event
			for range r.Intn(100) {
				l = append(l, anyEvent(r, c.symbols))
			}
			was := f.Snapshot(1)
			told := f.Tell(l, 1)
			same(t, "Tell", told, c.tell(l, 1)...)
			if told == nil {
				same(t, "Snapshot behind nothing", f.Snapshot(1), texts(was)...)
				refused++
			}
			same(t, "Snapshot", f.Snapshot(1), c.snapshot(1)...)
			same(t, "Again", f.Again(1, math.MaxInt), c.again(1, math.MaxInt)...)
			if f.Next() != c.next || c.next > api.MaxSeq+1 {
				t.Fatalf("Next: %d, want %d", f.Next(), c.next)
			}
			if c.next == api.MaxSeq+1 {
				reached++
			}
		}
	}
	if refused < 500 || reached < 100 {
		t.Errorf("only %d were refused, and %d times the last number was reached", refused, reached)
	}
}
