package viewer

import (
	"encoding/binary"
	"fmt"
	"hash/crc32"
	"math"
	"math/rand"
	"slices"
	"testing"

	"outcry/api"
)

// A second reading of the chapter, by other means, against which the package is held.

// item is a notice with its numbers behind one another: of a level side, price, quantity, orders; of the others as the table has them.
type item struct {
	kind, place int
	numbers     []int64
}

// shape tells how many numbers an item has, and which of them is a price (-1: none).
func shape(kind int) (many, price int) {
	return map[int]int{1: 4, 2: 2, 3: 1, 4: 4, 5: 3}[kind], map[int]int{1: 1, 2: 0, 3: -1, 4: 0, 5: 0}[kind]
}

// heard is a packet as the chapter reads it.
type heard struct {
	number, kind, part, parts int
	time                      int64
	items                     []item
}

// bytes writes a packet, right or not.
func (h heard) bytes() []byte {
	b := binary.BigEndian.AppendUint32(nil, uint32(h.number))
	b = binary.AppendVarint(append(b, byte(h.kind), byte(h.part), byte(h.parts)), h.time)
	var prices [256]int64
	for _, x := range h.items {
		b = append(b, byte(x.kind), byte(x.place))
		_, price := shape(x.kind)
		for i, n := range x.numbers {
			switch {
			case x.kind == 1 && i == 0:
				b = append(b, byte(n))
				continue
			case i == price:
				n, prices[byte(x.place)] = n-prices[byte(x.place)], n
			}
			b = binary.AppendVarint(b, n)
		}
	}
	return seal(b)
}

func seal(b []byte) []byte {
	return binary.BigEndian.AppendUint32(slices.Clip(b), crc32.ChecksumIEEE(b))
}

// varint reads a number that is written as short as may be.
func varint(b []byte) (n int64, rest []byte, ok bool) {
	n, size := binary.Varint(b)
	if size <= 0 || len(binary.AppendVarint(nil, n)) != size {
		return 0, nil, false
	}
	return n, b[size:], true
}

// hearBytes tells what bytes say, if they are a right packet (V2).
func hearBytes(b []byte, places int) (h heard, ok bool) {
	if len(b) < 12 || len(b) > 400 || string(seal(b[:len(b)-4])) != string(b) {
		return heard{}, false
	}
	h = heard{number: int(binary.BigEndian.Uint32(b)), kind: int(b[4]), part: int(b[5]), parts: int(b[6])}
	changes := h.kind == 1 && h.number >= 1 && h.part == 0 && h.parts == 0
	shot := h.kind == 2 && h.parts > 0 && h.part < h.parts
	rest := b[7 : len(b)-4]
	h.time, rest, ok = varint(rest)
	if !ok || !changes && !shot || h.number > 999999999 || h.time < 0 || h.time > 253402300799999 {
		return heard{}, false
	}
	var prices [8]int64
	for len(rest) > 0 {
		if len(rest) < 2 || int(rest[1]) >= places {
			return heard{}, false
		}
		x := item{kind: int(rest[0]), place: int(rest[1])}
		rest = rest[2:]
		many, price := shape(x.kind)
		for i := range many {
			var n int64
			if x.kind == 1 && i == 0 {
				if len(rest) == 0 {
					return heard{}, false
				}
				n, rest = int64(rest[0]), rest[1:]
			} else if n, rest, ok = varint(rest); !ok {
				return heard{}, false
			}
			if i == price {
				n += prices[x.place]
				prices[x.place] = n
			}
			x.numbers = append(x.numbers, n)
		}
		if !x.right(h.kind) {
			return heard{}, false
		}
		h.items = append(h.items, x)
	}
	return h, len(h.items) > 0 || shot
}

func (x item) right(packet int) bool {
	l := x.numbers
	switch [2]int{packet, x.kind} {
	case [2]int{1, 1}, [2]int{2, 1}:
		return (l[0] == 1 || l[0] == 2) && l[1] > 0 && l[1] <= 1000000000 && (packet == 1 || l[3] > 0)
	case [2]int{1, 3}, [2]int{2, 3}:
		return l[0] >= 0 && l[0] < 6
	case [2]int{1, 4}:
		return l[3] == 0 || l[3] == 1 || l[3] == 2
	case [2]int{1, 2}, [2]int{2, 5}:
		return true
	}
	return false
}

// picture is what is known of all instruments, by places.
type picture struct {
	phase  [8]int64
	last   [8][3]int64
	levels map[[3]int64][2]int64 // by place, side and price
}

func (p picture) copy() picture {
	c := picture{phase: p.phase, last: p.last, levels: map[[3]int64][2]int64{}}
	for at, is := range p.levels {
		c.levels[at] = is
	}
	return c
}

// take takes one item in; false, if a level would have orders below 0.
func (p *picture) take(x item, whole bool) bool {
	l := x.numbers
	switch x.kind {
	case 1:
		at := [3]int64{int64(x.place), l[0], l[1]}
		was := p.levels[at]
		if whole {
			was = [2]int64{}
		}
		p.levels[at] = [2]int64{was[0] + l[2], was[1] + l[3]}
		if p.levels[at][1] == 0 {
			delete(p.levels, at)
		}
		return p.levels[at][1] >= 0
	case 2:
		all := p.last[x.place][2]
		if sum := all + l[1]; l[1] >= 0 == (sum >= all) {
			all = sum
		}
		p.last[x.place] = [3]int64{l[0], l[1], all}
	case 3:
		p.phase[x.place] = l[0]
	case 5:
		p.last[x.place] = [3]int64(l)
	}
	return true
}

// text writes what is to be told of some places.
func (p picture) text(places int) string {
	text := ""
	for place := range places {
		text += fmt.Sprintf(" %d %v", p.phase[place], p.last[place])
		for side := int64(1); side <= 2; side++ {
			var l []api.Level
			for at, is := range p.levels {
				if at[0] == int64(place) && at[1] == side {
					l = append(l, api.Level{Price: at[2], Qty: is[0], Orders: int(is[1])})
				}
			}
			slices.SortFunc(l, func(a, b api.Level) int { return int(a.Price-b.Price) * int(2*side-3) })
			text += fmt.Sprintf(" %v", l)
		}
	}
	return text
}

// chapterViewer is what a viewer knows.
type chapterViewer struct {
	symbols []string
	n, high int
	known   picture
	parts   map[int]heard // those that are collected, by their places
	any     heard         // one of them
}

func newChapterViewer(symbols ...string) *chapterViewer {
	return &chapterViewer{symbols: symbols, known: picture{}.copy()}
}

func (c *chapterViewer) hear(b []byte) api.Errno {
	h, ok := hearBytes(b, len(c.symbols))
	if !ok {
		return 200
	}
	if h.kind == 2 {
		c.collect(h)
		return 0
	}
	if h.number == c.n+1 {
		next := c.known.copy()
		for _, x := range h.items {
			if !next.take(x, false) {
				return 200
			}
		}
		c.n, c.known = h.number, next
	}
	if h.number > c.high {
		c.high = h.number
	}
	return 0
}

func (c *chapterViewer) collect(h heard) {
	if h.number < c.n {
		return
	}
	if len(c.parts) > 0 {
		if c.any.number > h.number {
			return
		}
		if c.any.number == h.number && (c.any.time > h.time || c.any.time == h.time && c.any.parts != h.parts) {
			return
		}
		if c.any.number != h.number || c.any.time != h.time {
			c.parts = nil
		}
	}
	if c.parts == nil {
		c.parts = map[int]heard{}
	}
	if _, ok := c.parts[h.part]; !ok {
		c.parts[h.part], c.any = h, h
	}
	if len(c.parts) < h.parts {
		return
	}
	c.known = picture{}.copy()
	for i := range h.parts {
		for _, x := range c.parts[i].items {
			c.known.take(x, true)
		}
	}
	c.n, c.high, c.parts = h.number, h.number, nil
}

func (c *chapterViewer) text() string {
	gapped, from := c.high > c.n, 0
	if gapped {
		from = c.n + 1
	}
	return fmt.Sprintf("#%d %v %d%s", c.n, gapped, from, c.known.text(len(c.symbols)))
}

// books writes what a viewer tells of its instruments.
func books(v *Viewer, symbols []string) string {
	text := ""
	for _, symbol := range symbols {
		price, qty, all := v.Last(symbol)
		text += fmt.Sprintf(" %d %v %v %v", v.Phase(symbol), [3]int64{price, qty, all}, v.Depth(symbol, 1), v.Depth(symbol, 2))
	}
	return text
}

// told writes all that a viewer tells.
func told(v *Viewer, symbols []string) string {
	gapped, from := v.Gapped()
	return fmt.Sprintf("#%d %v %d%s", v.Number(), gapped, from, books(v, symbols))
}

// anyNumber is one of any size, near 0 or at an end more often than not.
func anyNumber(r *rand.Rand) int64 {
	edges := []int64{0, 1, -1, 63, 64, -64, -65, math.MaxInt64, math.MinInt64, math.MaxInt64 - 1, math.MinInt64 + 1, api.MaxPrice, api.MaxTime}
	if r.Intn(4) == 0 {
		return edges[r.Intn(len(edges))]
	}
	return int64(r.Uint64()) >> r.Intn(64)
}

// anyItem makes one up that is right in packets of a kind, most often; few prices, so that levels change and go.
func anyItem(r *rand.Rand, packet, places int) item {
	kind := []int{1, 1, 1, 2, 3, 4}[r.Intn(6)]
	if packet == 2 {
		kind = []int{1, 1, 1, 3, 5}[r.Intn(5)]
	}
	x := item{kind: kind, place: r.Intn(places)}
	price := 1000 + r.Int63n(4)
	if r.Intn(6) == 0 {
		price = []int64{1, api.MaxPrice, 1 + r.Int63n(api.MaxPrice)}[r.Intn(3)]
	}
	switch x.kind {
	case 1:
		x.numbers = []int64{1 + r.Int63n(2), price, []int64{anyNumber(r), r.Int63n(9) - 4}[r.Intn(2)], []int64{2, 1, 1, 0, 0, -1}[r.Intn(6)]}
		if packet == 2 {
			x.numbers[3] = 1 + r.Int63n(3)
		}
		if r.Intn(100) == 0 {
			x.numbers[3] = anyNumber(r)
		}
	case 2:
		x.numbers = []int64{anyNumber(r), anyNumber(r)}
	case 3:
		x.numbers = []int64{r.Int63n(6)}
	case 4:
		x.numbers = []int64{anyNumber(r), anyNumber(r), anyNumber(r), r.Int63n(3)}
	case 5:
		x.numbers = []int64{anyNumber(r), anyNumber(r), anyNumber(r)}
	}
	return x
}

// anyPacket makes one up near what a viewer has come to.
func anyPacket(r *rand.Rand, c *chapterViewer) heard {
	h := heard{number: c.n + 1, kind: 1, time: r.Int63n(3)}
	if r.Intn(3) == 0 {
		h.number = max(1, c.n+r.Intn(6)-2)
	}
	if r.Intn(3) == 0 {
		h.kind, h.parts, h.number = 2, 1+r.Intn(3), max(0, c.n+r.Intn(5)-1)
		if r.Intn(4) == 0 {
			h.parts = 1 + r.Intn(6)
		}
		h.part = r.Intn(h.parts)
		if len(c.parts) > 0 && r.Intn(3) > 0 { // as those that are collected
			h.number, h.time, h.parts = c.any.number, c.any.time, c.any.parts
			h.part = r.Intn(h.parts)
		}
	}
	for range r.Intn([]int{3, 8, 20}[r.Intn(3)]) + 2 - h.kind {
		h.items = append(h.items, anyItem(r, h.kind, len(c.symbols)))
	}
	return h
}

// spoil makes a packet another one, most often a wrong one whose sum is right.
func spoil(r *rand.Rand, h heard) []byte {
	if len(h.items) > 0 && r.Intn(2) == 0 {
		x := &h.items[r.Intn(len(h.items))]
		switch i := r.Intn(len(x.numbers) + 2); i {
		case 0:
			x.place = r.Intn(9)
		case 1:
			x.kind = r.Intn(7)
		default:
			x.numbers[i-2] = []int64{-1, 0, 3, 6, 1000000001, anyNumber(r)}[r.Intn(6)]
		}
	}
	switch r.Intn(8) {
	case 0:
		h.number = []int{0, 1000000000, 1 << 31}[r.Intn(3)]
	case 1:
		h.kind = r.Intn(4)
	case 2:
		h.part = r.Intn(4)
	case 3:
		h.parts = r.Intn(4)
	case 4:
		h.time = anyNumber(r)
	}
	b := h.bytes()
	switch r.Intn(5) {
	case 0:
		b[r.Intn(len(b))] ^= byte(1 << r.Intn(8))
	case 1:
		b = seal(b[:r.Intn(len(b)-4)])
	case 2:
		b = b[:len(b)-4]
		b[r.Intn(len(b))] = byte(r.Intn(256))
		b = seal(b)
	}
	return b
}

// TestAgainstTheChapter holds all calls against the second reading, over many walks of any packets.
func TestAgainstTheChapter(t *testing.T) {
	all := []string{"ABC", "XY", "Z9", "A", "B", "C", "D", "E"}
	followed, joined, gapped, refused, below := 0, 0, 0, 0, 0
	for seed := range int64(200) {
		r := rand.New(rand.NewSource(seed))
		symbols := all[:1+r.Intn(8)]
		v, c := newViewer(t, symbols...), newChapterViewer(symbols...)
		if r.Intn(8) == 0 { // as of the greatest numbers
			b := heard{number: api.MaxSeq - r.Intn(6), kind: 2, parts: 1}.bytes()
			c.hear(b)
			v.Hear(b)
		}
		for range 250 {
			h := anyPacket(r, c)
			b := h.bytes()
			if r.Intn(5) == 0 {
				b = spoil(r, h)
			}
			was := c.n
			got, want := v.Hear(b), c.hear(b)
			if got != want || told(v, symbols) != c.text() {
				t.Fatalf("walk %d: Hear(%x): %d, want %d; behind it\n%s, want\n%s", seed, b, got, want, told(v, symbols), c.text())
			}
			if got != api.OK {
				refused++
				if _, ok := hearBytes(b, len(symbols)); ok {
					below++
				}
			}
			if c.n == was+1 && h.kind == 1 {
				followed++
			} else if h.kind == 2 && c.n != was {
				joined++
			}
			if c.high > c.n {
				gapped++
			}
		}
	}
	if followed < 5000 || joined < 1000 || gapped < 5000 || refused < 4000 || below < 500 {
		t.Errorf("only %d packets were followed, %d snapshots taken in, %d times it was gapped, %d were refused, %d for orders below 0", followed, joined, gapped, refused, below)
	}
}
