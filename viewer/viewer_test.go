package viewer

import (
	"encoding/binary"
	"encoding/hex"
	"fmt"
	"math"
	"slices"
	"strings"
	"sync"
	"testing"

	"outcry/api"
	"outcry/feed"
)

const (
	least    = "ffffffffffffffffff01" // the least int64, as it is written
	greatest = "feffffffffffffffff01"
)

func newViewer(t *testing.T, symbols ...string) *Viewer {
	t.Helper()
	v, e := New(symbols)
	if v == nil || e != api.OK {
		t.Fatalf("New(%q): %v, %d", symbols, v, e)
	}
	return v
}

// sealed gives the bytes that are written in hex, and their Crc behind them.
func sealed(t *testing.T, written string) []byte {
	t.Helper()
	b, err := hex.DecodeString(strings.ReplaceAll(written, " ", ""))
	if err != nil {
		t.Fatal(err)
	}
	return seal(b)
}

// changes is a packet of changes with a number, of notices in hex.
func changes(t *testing.T, number int, notices string) []byte {
	t.Helper()
	return sealed(t, fmt.Sprintf("%08x 01 00 00 00 ", number)+notices)
}

// shot is a part of a snapshot, of notices in hex.
func shot(t *testing.T, number, part, parts int, time int64, notices string) []byte {
	t.Helper()
	return sealed(t, fmt.Sprintf("%08x 02 %02x %02x %x ", number, part, parts, binary.AppendVarint(nil, time))+notices)
}

func hear(t *testing.T, v *Viewer, b []byte, want api.Errno) {
	t.Helper()
	if e := v.Hear(b); e != want {
		t.Fatalf("Hear(%x): %d, want %d", b, e, want)
	}
}

// sees: this is what a viewer tells: its number, whether it is gapped and from where on, and of each instrument phase, last trade, buys, sells.
func sees(t *testing.T, v *Viewer, want string) {
	t.Helper()
	for range 2 {
		if got := told(v, v.symbols); got != want {
			t.Fatalf("it tells\n%s, want\n%s", got, want)
		}
	}
}

// refuses: bytes are no right packet, and change nothing, neither for a new viewer nor for one that knows something and collects parts.
func refuses(t *testing.T, what string, b []byte) {
	t.Helper()
	for _, begin := range [][]string{{}, {"00000004 02 00 01 00  03 00 06  01 00 01 14 0a 02", "00000007 01 00 00 00 03 00 00", "00000005 02 00 02 00 03 00 02"}} {
		v := newViewer(t, "A", "B")
		for _, x := range begin {
			hear(t, v, sealed(t, x), api.OK)
		}
		was := told(v, v.symbols)
		if e := v.Hear(b); e != api.ErrPacket {
			t.Errorf("%s: Hear(%x): %d", what, b, e)
		}
		sees(t, v, was)
		if len(begin) > 0 { // the part that was collected is there still
			hear(t, v, shot(t, 5, 1, 2, 0, "03 01 04"), api.OK)
			sees(t, v, "#5 false 0 1 [0 0 0] [] [] 2 [0 0 0] [] []")
		}
	}
}

// takes: bytes are a right packet, for a viewer that knows nothing.
func takes(t *testing.T, what string, b []byte) {
	t.Helper()
	if e := newViewer(t, "A", "B").Hear(b); e != api.OK {
		t.Errorf("%s: Hear(%x): %d", what, b, e)
	}
}

func TestV1New(t *testing.T) {
	eight := []string{"A", "AB", "A1", "ABCDEFGH", "Z9999999", "B", "C", "D"}
	for many := 1; many <= 8; many++ {
		v := newViewer(t, eight[:many]...)
		sees(t, v, "#0 false 0"+strings.Repeat(" 0 [0 0 0] [] []", many))
		for place := range 8 {
			want := api.OK
			if place >= many {
				want = api.ErrPacket
			}
			hear(t, newViewer(t, eight[:many]...), changes(t, 1, fmt.Sprintf("03 %02x 06", place)), want)
		}
		hear(t, v, changes(t, 1, fmt.Sprintf("03 %02x 06", many-1)), api.OK)
		for place, symbol := range eight {
			if p := v.Phase(symbol); (p == 3) != (place == many-1) {
				t.Errorf("of %d instruments, the one at %d: %d", many, place, p)
			}
		}
	}
}

func TestV1NoViewer(t *testing.T) {
	refused := func(l []string) {
		t.Helper()
		if v, e := New(l); v != nil || e != api.ErrArg {
			t.Errorf("New(%q): %v, %d", l, v, e)
		}
	}
	refused(nil)
	refused([]string{})
	eight := []string{"A", "AB", "A1", "ABCDEFGH", "Z9999999", "B", "C", "D"}
	refused(append(slices.Clone(eight), "E"))
	refused(append(slices.Clone(eight), "A"))
	refused(make([]string, 100000))
	for at := range eight {
		for _, wrong := range []string{"", "a", "1", "1A", "ABCDEFGHI", "A B", "A-", "Ä", "A\x00", " A", "A|", strings.Repeat("A", 100000)} {
			l := slices.Clone(eight)
			l[at] = wrong
			refused(l)
			refused([]string{wrong})
		}
		for other := range at {
			l := slices.Clone(eight)
			l[at] = l[other]
			refused(l)
		}
	}
	newViewer(t, eight...)
}

func TestChapterExamples(t *testing.T) {
	f, e := feed.New([]string{"ABC"})
	if e != api.OK {
		t.Fatal(e)
	}
	level := func(qty int64) []api.Event {
		return []api.Event{{Kind: api.EvLevel, Symbol: "ABC", Side: api.Buy, Level: api.Level{Price: 1000, Qty: qty, Orders: 1}}}
	}
	var p [6][]byte
	for n := 1; n <= 5; n++ {
		p[n] = f.Tell(level(int64(10*n)), 0)[0]
	}
	v := newViewer(t, "ABC")
	hear(t, v, p[1], api.OK)
	sees(t, v, "#1 false 0 0 [0 0 0] [{1000 10 1}] []")
	hear(t, v, p[3], api.OK)
	sees(t, v, "#1 true 2 0 [0 0 0] [{1000 10 1}] []")
	hear(t, v, p[2], api.OK)
	sees(t, v, "#2 true 3 0 [0 0 0] [{1000 20 1}] []")
	hear(t, v, p[3], api.OK)
	sees(t, v, "#3 false 0 0 [0 0 0] [{1000 30 1}] []")
	hear(t, v, p[2], api.OK)
	sees(t, v, "#3 false 0 0 [0 0 0] [{1000 30 1}] []")
	hear(t, v, shot(t, 5, 1, 2, 0, "01 00 01 d00f 64 02"), api.OK)
	sees(t, v, "#3 false 0 0 [0 0 0] [{1000 30 1}] []")
	hear(t, v, shot(t, 5, 0, 2, 0, "03 00 06"), api.OK)
	sees(t, v, "#5 false 0 3 [0 0 0] [{1000 50 1}] []")
	for at := range p[5] {
		turned := slices.Clone(p[5])
		turned[at] ^= 255
		hear(t, v, turned, api.ErrPacket)
	}
}

// TestV2Sizes: packets of 12 and of 400 bytes are right ones, those of 11 and 401 are none.
func TestV2Sizes(t *testing.T) {
	takes(t, "12 bytes", shot(t, 1, 0, 1, 0, ""))
	phases := strings.Repeat("03 00 06", 129)
	if b := shot(t, 1, 0, 1, 64, phases); len(b) != 400 {
		t.Fatalf("%d bytes", len(b))
	}
	takes(t, "400 bytes", shot(t, 1, 0, 1, 64, phases))
	takes(t, "400 bytes", sealed(t, "00000001 01 00 00 8001"+phases))
	refuses(t, "401 bytes", shot(t, 1, 0, 1, 8192, phases))
	refuses(t, "401 bytes", sealed(t, "00000001 01 00 00 808001"+phases))
	refuses(t, "many bytes", sealed(t, "00000001 01 00 00 00"+strings.Repeat(phases, 1000)))
	whole := sealed(t, "00000001 02 00 01 00 03 00 06")
	for size := range len(whole) {
		refuses(t, "a part of one", whole[:size])
		refuses(t, "the end of one", whole[size+1:])
		if size < 12 {
			refuses(t, "too few, and a right sum", seal(whole[:max(0, size-4)]))
		}
		refuses(t, "noughts", make([]byte, size))
	}
	refuses(t, "nil", nil)
	refuses(t, "a byte behind it", append(slices.Clone(whole), 0))
	refuses(t, "twice", append(slices.Clone(whole), whole...))
}

// TestV2Sum: whatever byte is another one, the packet is refused.
func TestV2Sum(t *testing.T) {
	for _, b := range [][]byte{changes(t, 1, "01 00 01 d00f 64 02"), shot(t, 5, 0, 2, 7, "05 01 d00f 28 28")} {
		takes(t, "as it is", b)
		v := newViewer(t, "A", "B")
		for at := range b {
			for other := 1; other < 256; other++ {
				spoilt := slices.Clone(b)
				spoilt[at] ^= byte(other)
				hear(t, v, spoilt, api.ErrPacket)
			}
		}
		end := len(b) - 4
		turned := slices.Clone(b)
		slices.Reverse(turned[end:])
		hear(t, v, turned, api.ErrPacket)
		sees(t, v, "#0 false 0 0 [0 0 0] [] [] 0 [0 0 0] [] []")
	}
}

func TestV2Head(t *testing.T) {
	const notice = " 00 03 00 06"
	for _, x := range []struct {
		number        uint32
		changes, shot bool
	}{{0, false, true}, {1, true, true}, {999999999, true, true}, {1000000000, false, false}, {1 << 31, false, false}, {math.MaxUint32, false, false}} {
		for kind := range 256 {
			b := sealed(t, fmt.Sprintf("%08x %02x 00 00", x.number, kind)+notice)
			if kind == 1 && x.changes {
				takes(t, "changes", b)
			} else {
				refuses(t, "without parts", b)
			}
			b = sealed(t, fmt.Sprintf("%08x %02x 00 01", x.number, kind)+notice)
			if kind == 2 && x.shot {
				takes(t, "a snapshot", b)
			} else {
				refuses(t, "of one part", b)
			}
		}
	}
	v := newViewer(t, "A")
	for part := range 256 {
		for parts := range 256 {
			want := api.ErrPacket
			if part < parts {
				want = api.OK
			}
			hear(t, v, sealed(t, fmt.Sprintf("00000001 02 %02x %02x", part, parts)+notice), want)
			want = api.ErrPacket
			if part == 0 && parts == 0 {
				want = api.OK
			}
			hear(t, v, sealed(t, fmt.Sprintf("00000001 01 %02x %02x", part, parts)+notice), want)
		}
	}
}

func TestV2Time(t *testing.T) {
	for _, time := range []int64{0, 1, 64, 1 << 40, api.MaxTime - 1, api.MaxTime} {
		takes(t, "a time", sealed(t, fmt.Sprintf("00000001 01 00 00 %x 03 00 06", binary.AppendVarint(nil, time))))
		takes(t, "a time", shot(t, 0, 0, 1, time, ""))
	}
	for _, time := range []int64{-1, -2, api.MaxTime + 1, math.MaxInt64, math.MinInt64} {
		refuses(t, "no time", sealed(t, fmt.Sprintf("00000001 01 00 00 %x 03 00 06", binary.AppendVarint(nil, time))))
		refuses(t, "no time", shot(t, 0, 0, 1, time, ""))
	}
	for _, written := range []string{"8000", "828000", "80", "8080", "ff", "80808080808080808002", "8080808080808080808001", "ffffffffffffffffffff01"} {
		refuses(t, "no number", sealed(t, "00000001 02 00 01 "+written))
		refuses(t, "no number", sealed(t, "00000001 02 00 01 "+written+" 03 00 06"))
	}
	// A time that goes on into the sum, where it would end, is none.
	ended := 0
	for number := range 64 {
		b := sealed(t, fmt.Sprintf("%08x 02 00 01 80", number))
		if b[8] > 0 && b[8] < 128 {
			ended++
		}
		refuses(t, "a time within the sum", b)
	}
	if ended < 10 {
		t.Errorf("only %d would end there", ended)
	}
}

// TestV2KindsAndPlaces: which notices stand in which packets, and of which instruments.
func TestV2KindsAndPlaces(t *testing.T) {
	rests := []string{"01 14 0a 02", "14 0a", "06", "14 0a 00 02", "14 0a 0a"} // of the kinds 1 to 5
	check := func(kind, place int, rest string) {
		t.Helper()
		written := fmt.Sprintf("%02x %02x ", kind, place) + rest
		inChanges, inShots := refuses, refuses
		if place < 2 && kind >= 1 && kind <= 4 {
			inChanges = takes
		}
		if place < 2 && (kind == 1 || kind == 3 || kind == 5) {
			inShots = takes
		}
		for _, ahead := range []string{"", "03 00 06"} {
			inChanges(t, "changes", changes(t, 1, ahead+written))
			inShots(t, "a snapshot", shot(t, 1, 0, 1, 0, ahead+written))
		}
	}
	for i, rest := range rests {
		for place := range 256 {
			check(i+1, place, rest)
		}
		for kind := 6; kind <= 256; kind++ { // 0 at last
			check(kind%256, 0, rest)
		}
	}
	refuses(t, "changes without a notice", changes(t, 1, ""))
	takes(t, "changes of an auction alone", changes(t, 1, "04 00 00 00 00 00"))
	takes(t, "a snapshot without a notice", shot(t, 1, 0, 1, 0, ""))
}

// TestV2Cut: a notice that ends too early, and one with something behind it.
func TestV2Cut(t *testing.T) {
	for kind, notice := range map[int]string{1: "010101d00fe40702", 2: "0201d00f28", 3: "030106", 4: "0401d00f280002", 5: "0501d00f2828"} {
		packet := func(notices string) []byte {
			if kind == 5 {
				return shot(t, 1, 0, 1, 0, notices)
			}
			return changes(t, 1, notices)
		}
		takes(t, "whole", packet(notice))
		takes(t, "twice", packet(notice+"030006"+notice))
		for cut := 2; cut < len(notice); cut += 2 {
			refuses(t, "cut off", packet(notice[:cut]))
			refuses(t, "cut off", packet("030006"+notice[:cut]))
		}
		for _, behind := range []string{"00", "01", "03", "ff", "0300", "030080", "0000"} {
			refuses(t, "something behind it", packet(notice+behind))
		}
	}
}

// TestV2Numbers: each number of each notice is one that num.GetVar reads.
func TestV2Numbers(t *testing.T) {
	wrong := []string{"8000", "80808000", "80", "8080", "80808080808080808002", "808080808080808080808001", "ffffffffffffffffff02"}
	for _, x := range []struct {
		kind  int
		parts []string // ahead of a number, and behind it
	}{
		{1, []string{"01 00 01", "02 02"}}, {1, []string{"01 00 01 14", "02"}}, {1, []string{"01 00 01 14 02", ""}},
		{1, []string{"02 00", "02"}}, {1, []string{"02 00 02", ""}}, {1, []string{"03 00", ""}},
		{1, []string{"04 00", "02 02 02"}}, {1, []string{"04 00 02", "02 02"}}, {1, []string{"04 00 02 02", "02"}}, {1, []string{"04 00 02 02 02", ""}},
		{2, []string{"01 00 01", "02 02"}}, {2, []string{"01 00 01 14", "02"}}, {2, []string{"01 00 01 14 02", ""}},
		{2, []string{"03 00", ""}}, {2, []string{"05 00", "02 02"}}, {2, []string{"05 00 02", "02"}}, {2, []string{"05 00 02 02", ""}},
	} {
		packet := func(number string) []byte {
			written := x.parts[0] + number + x.parts[1]
			if x.kind == 2 {
				return shot(t, 1, 0, 1, 0, written)
			}
			return changes(t, 1, written)
		}
		takes(t, "1", packet("02"))
		for _, number := range wrong {
			refuses(t, "no number", packet(number))
		}
	}
}

func TestV2Sides(t *testing.T) {
	for side := range 256 {
		level := fmt.Sprintf("01 00 %02x 14 0a 02", side)
		check := refuses
		if side == 1 || side == 2 {
			check = takes
		}
		check(t, "a level", changes(t, 1, level))
		check(t, "a level", shot(t, 1, 0, 1, 0, level))
	}
	for side, right := range map[int64]bool{0: true, 1: true, 2: true, 3: false, -1: false, 256: false, 257: false, 1 << 32: false, 1<<32 + 1: false, math.MaxInt64: false, math.MinInt64: false} {
		check := refuses
		if right {
			check = takes
		}
		check(t, "an auction", changes(t, 1, fmt.Sprintf("04 00 14 0a 00 %x", binary.AppendVarint(nil, side))))
	}
}

func TestV2Phases(t *testing.T) {
	for phase, right := range map[int64]bool{0: true, 1: true, 2: true, 3: true, 4: true, 5: true, 6: false, -1: false, 256: false, 1 << 32: false, 1<<32 + 3: false, math.MaxInt64: false, math.MinInt64: false} {
		written := fmt.Sprintf("03 01 %x", binary.AppendVarint(nil, phase))
		for _, b := range [][]byte{changes(t, 1, written), shot(t, 1, 0, 1, 0, written)} {
			if !right {
				refuses(t, "a phase", b)
				continue
			}
			v := newViewer(t, "A", "B")
			hear(t, v, b, api.OK)
			if v.Phase("B") != int(phase) || v.Phase("A") != 0 {
				t.Errorf("the phase %d is told as %d", phase, v.Phase("B"))
			}
		}
	}
}

// TestV2Prices: those of levels are bounded, whatever stood ahead; those of the others may be any.
func TestV2Prices(t *testing.T) {
	for _, ahead := range []int64{0, 5, -7, api.MaxPrice, math.MaxInt64, math.MinInt64} {
		for price, right := range map[int64]bool{1: true, 2: true, api.MaxPrice: true, api.MaxPrice + 1: false, 0: false, -1: false, math.MaxInt64: false, math.MinInt64: false} {
			level := item{1, 0, []int64{1, price, 5, 1}}
			check := refuses
			if right {
				check = takes
			}
			check(t, "behind a trade", heard{number: 1, kind: 1, items: []item{{2, 0, []int64{ahead, 1}}, {2, 1, []int64{99, 1}}, {3, 0, []int64{1}}, level}}.bytes())
			check(t, "behind an auction", heard{number: 1, kind: 1, items: []item{{4, 0, []int64{ahead, 1, 0, 0}}, level}}.bytes())
			check(t, "behind a last trade", heard{number: 1, kind: 2, parts: 1, items: []item{{5, 0, []int64{ahead, 1, 0}}, {5, 1, []int64{98, 1, 0}}, level}}.bytes())
		}
	}
	v := newViewer(t, "A")
	hear(t, v, heard{number: 1, kind: 1, items: []item{{1, 0, []int64{1, 1, 5, 1}}, {1, 0, []int64{2, api.MaxPrice, 6, 2}}}}.bytes(), api.OK)
	sees(t, v, "#1 false 0 0 [0 0 0] [{1 5 1}] [{1000000000 6 2}]")
}

// TestV2OrdersOfSnapshots: a level that a snapshot tells has an order at least.
func TestV2OrdersOfSnapshots(t *testing.T) {
	for orders, right := range map[int64]bool{1: true, 2: true, math.MaxInt64: true, 0: false, -1: false, math.MinInt64: false} {
		b := heard{number: 1, kind: 2, parts: 1, items: []item{{1, 0, []int64{2, 10, 5, orders}}}}.bytes()
		if !right {
			refuses(t, "a level", b)
			continue
		}
		v := newViewer(t, "A")
		hear(t, v, b, api.OK)
		sees(t, v, fmt.Sprintf("#1 false 0 0 [0 0 0] [] [{10 5 %d}]", orders))
	}
}

// TestV3NothingChanges: with an error all is as it was, and goes on as if nothing had come.
func TestV3NothingChanges(t *testing.T) {
	v := newViewer(t, "A")
	wrong := func() {
		t.Helper()
		was := told(v, v.symbols)
		next := v.Number() + 1
		for _, b := range [][]byte{
			nil, changes(t, next, ""), changes(t, next, "03 00 06 03 00 0c"), changes(t, next, "01 00 01 14 0a 02 01 00 03 00 0a 02"),
			changes(t, next+1, "03 01 06"), changes(t, next+5, "05 00 02 02 02"), changes(t, 999999999, "03 00"), shot(t, next+5, 0, 1, 0, "03 00 06 02 00 02 02"), shot(t, next+5, 1, 1, 0, "03 00 06"),
			changes(t, next, "03 00 08 01 00 02 14 0a 02 01 00 02 00 0a 05"),
		} {
			hear(t, v, b, api.ErrPacket)
		}
		sees(t, v, was)
	}
	wrong()
	hear(t, v, changes(t, 1, "03 00 06 01 00 01 14 0a 02"), api.OK)
	wrong()
	hear(t, v, changes(t, 3, "03 00 04"), api.OK)
	wrong()
	sees(t, v, "#1 true 2 3 [0 0 0] [{10 5 1}] []")
	hear(t, v, shot(t, 3, 0, 2, 1, "03 00 04"), api.OK)
	wrong()
	hear(t, v, shot(t, 3, 1, 2, 1, "01 00 02 16 0a 02"), api.OK)
	wrong()
	sees(t, v, "#3 false 0 2 [0 0 0] [] [{11 5 1}]")
}

// TestV4OtherNumbers: changes that were taken in, and those that come too early, are not taken in.
func TestV4OtherNumbers(t *testing.T) {
	v := newViewer(t, "A")
	for n := 1; n <= 5; n++ {
		hear(t, v, changes(t, n, fmt.Sprintf("01 00 01 14 %02x %02x", 2*n, 2*min(1, 6-n))), api.OK)
	}
	const known = " 0 [0 0 0] [{10 15 5}] []"
	sees(t, v, "#5 false 0"+known)
	for n := 1; n <= 5; n++ {
		hear(t, v, changes(t, n, "01 00 01 14 02 02"), api.OK)
		hear(t, v, changes(t, n, "01 00 02 14 02 01"), api.OK) // orders below 0, if it were taken in
		sees(t, v, "#5 false 0"+known)
	}
	for _, x := range []int{7, 6 + 2, 7, 100, 99, 999999999, 7} {
		hear(t, v, changes(t, x, "01 00 01 14 02 02"), api.OK)
		hear(t, v, changes(t, x, "01 00 02 14 02 01"), api.OK)
		sees(t, v, "#5 true 6"+known)
	}
	w := newViewer(t, "A")
	hear(t, w, changes(t, 2, "03 00 06"), api.OK)
	sees(t, w, "#0 true 1 0 [0 0 0] [] []")
	hear(t, w, changes(t, 4, "03 00 06"), api.OK)
	hear(t, w, changes(t, 3, "03 00 06"), api.OK)
	for n := 1; n <= 4; n++ { // high stays the greatest one
		sees(t, w, fmt.Sprintf("#%d true %d %d [0 0 0] [] []", n-1, n, n-1))
		hear(t, w, changes(t, n, fmt.Sprintf("03 00 %02x", 2*n)), api.OK)
	}
	sees(t, w, "#4 false 0 4 [0 0 0] [] []")
}

// TestV5Levels: differences add up; without orders a level is gone, whatever its quantity is.
func TestV5Levels(t *testing.T) {
	v := newViewer(t, "A", "B")
	for i, x := range []struct{ notices, want string }{
		{"01 00 01 14 0a 02", "[{10 5 1}] []"},
		{"01 00 01 14 0a 04", "[{10 10 3}] []"},
		{"01 00 01 14 09 03", "[{10 5 1}] []"},
		{"01 00 01 14 00 00", "[{10 5 1}] []"},
		{"01 00 01 14 0f 00", "[{10 -3 1}] []"}, // any quantity
		{"01 00 02 14 0a 02", "[{10 -3 1}] [{10 5 1}]"},
		{"01 00 01 14 04 01", "[] [{10 5 1}]"}, // gone, with -1 left of its quantity
		{"01 00 01 14 0a 02", "[{10 5 1}] [{10 5 1}]"},
		{"01 00 01 16 0a 00", "[{10 5 1}] [{10 5 1}]"},                             // never there
		{"01 00 01 16 02 02", "[{11 1 1} {10 5 1}] [{10 5 1}]"},                    // and its quantity does not count
		{"01 00 01 14 0a 01 01 00 01 00 06 04", "[{11 1 1} {10 3 2}] [{10 5 1}]"},  // gone and there again, in one packet
		{"01 00 01 14 02 03 01 00 01 02 01 01", "[] [{10 5 1}]"},                   // the second price is one more
		{"01 00 02 14 " + greatest + " 00", "[] [{10 -9223372036854775804 1}]"},    // it wraps round
		{"01 00 02 14 " + least + " 00", "[] [{10 4 1}]"},                          // and back
		{"01 00 02 14 00 fcffffffffffffffff01", "[] [{10 4 9223372036854775807}]"}, // the most orders
		{"01 00 02 14 02 fbffffffffffffffff01", "[] [{10 5 1}]"},
	} {
		hear(t, v, changes(t, i+1, x.notices), api.OK)
		sees(t, v, fmt.Sprintf("#%d false 0 0 [0 0 0] %s 0 [0 0 0] [] []", i+1, x.want))
	}
}

// TestV5Apart: places, sides and prices have levels of their own.
func TestV5Apart(t *testing.T) {
	v := newViewer(t, "A", "B", "C")
	hear(t, v, changes(t, 1, "01 02 01 14 02 02  01 00 01 14 04 02  01 02 02 00 06 02  01 00 02 02 08 02  01 01 01 0a 0a 02  01 02 01 02 0c 02  03 02 02  02 01 02 02  03 00 04"), api.OK)
	sees(t, v, "#1 false 0 2 [0 0 0] [{10 2 1}] [{11 4 1}] 0 [6 1 1] [{5 5 1}] [] 1 [0 0 0] [{11 6 1} {10 1 1}] [{10 3 1}]")
	hear(t, v, changes(t, 2, "01 02 01 14 01 01"), api.OK)
	sees(t, v, "#2 false 0 2 [0 0 0] [{10 2 1}] [{11 4 1}] 0 [6 1 1] [{5 5 1}] [] 1 [0 0 0] [{11 6 1}] [{10 3 1}]")
}

// TestV5BelowZero: one notice that leaves orders below 0 spoils all of the packet, also if another one would mend it.
func TestV5BelowZero(t *testing.T) {
	v := newViewer(t, "A")
	hear(t, v, changes(t, 1, "01 00 01 14 0a 04 02 00 02 0e 03 00 06"), api.OK)
	const known = " 3 [11 7 7] [{10 5 2}] []"
	for _, gap := range []string{"#1 false 0", "#1 true 2"} {
		for _, notices := range []string{
			"01 00 01 14 00 05",                                        // 2 and -3
			"01 00 01 14 00 05 01 00 01 00 00 0a",                      // and 5 more
			"01 00 02 14 00 01",                                        // 0 and -1
			"01 00 01 12 00 01",                                        // at another price
			"01 00 01 14 00 " + least,                                  // 2 and -2^63
			"01 00 01 14 00 " + greatest,                               // 2^63 + 1: it wraps round
			"01 00 01 14 00 fcffffffffffffffff01",                      // 2^63
			"01 00 01 14 00 03 01 00 01 00 00 01",                      // gone, and then -1
			"01 00 02 14 00 04 01 00 02 00 00 05",                      // 2 of this packet, and -3
			"03 00 08 02 00 14 0a 01 00 02 00 02 02 01 00 01 00 0a 05", // others ahead of it
			"01 00 01 14 00 05 03 00 08",                               // and behind it
			"01 00 01 14 01 03 01 00 02 02 0a 02 01 00 02 02 0a 01",    // a level gone and one new ahead of it
		} {
			hear(t, v, changes(t, 2, notices), api.ErrPacket)
			sees(t, v, gap+known)
		}
		if gap == "#1 false 0" {
			hear(t, v, changes(t, 9, "03 00 00"), api.OK)
		}
	}
	hear(t, v, changes(t, 2, "01 00 01 14 00 03"), api.OK) // 2 less: gone
	sees(t, v, "#2 true 3 3 [11 7 7] [] []")
}

// TestV5Trades: the last one counts, and all of them as long as the sum stays in 64 bits.
func TestV5Trades(t *testing.T) {
	v := newViewer(t, "A", "B")
	for i, x := range []struct{ price, qty, all int64 }{
		{0, 0, 0}, {5, 7, 7}, {6, -9, -2}, {-6, math.MaxInt64, math.MaxInt64 - 2},
		{1, 3, math.MaxInt64 - 2}, // it would leave 64 bits
		{1, 2, math.MaxInt64}, {2, 1, math.MaxInt64}, {2, math.MaxInt64, math.MaxInt64},
		{3, math.MinInt64, -1}, {math.MaxInt64, math.MinInt64, -1}, {math.MinInt64, -math.MaxInt64, math.MinInt64},
		{5, -1, math.MinInt64}, {5, math.MinInt64, math.MinInt64}, {7, 1, math.MinInt64 + 1},
	} {
		hear(t, v, heard{number: i + 1, kind: 1, items: []item{{2, 0, []int64{x.price, x.qty}}, {4, 0, []int64{77, 78, 79, 1}}}}.bytes(), api.OK)
		sees(t, v, fmt.Sprintf("#%d false 0 0 [%d %d %d] [] [] 0 [0 0 0] [] []", i+1, x.price, x.qty, x.all))
	}
	hear(t, v, heard{number: 15, kind: 1, items: []item{{2, 1, []int64{10, 2}}, {2, 1, []int64{8, 3}}, {2, 1, []int64{9, 4}}}}.bytes(), api.OK)
	if p, q, all := v.Last("B"); p != 9 || q != 4 || all != 9 {
		t.Errorf("Last: %d, %d, %d", p, q, all)
	}
}

// TestV5AuctionsAndPhases: an auction's result changes nothing but the price to which the next one is told; the last phase counts.
func TestV5AuctionsAndPhases(t *testing.T) {
	v := newViewer(t, "A")
	hear(t, v, changes(t, 1, "04 00 14 0a 00 02"), api.OK)
	sees(t, v, "#1 false 0 0 [0 0 0] [] []")
	hear(t, v, changes(t, 2, "04 00 14 0a 00 02 03 00 04 01 00 01 02 0a 02 03 00 02 02 00 01 04"), api.OK)
	sees(t, v, "#2 false 0 1 [10 2 2] [{11 5 1}] []")
	for phase := range 6 {
		hear(t, v, changes(t, 3+phase, fmt.Sprintf("03 00 0a 03 00 %02x", 2*phase)), api.OK)
		sees(t, v, fmt.Sprintf("#%d false 0 %d [10 2 2] [{11 5 1}] []", 3+phase, phase))
	}
}

// TestV6AnyOrder: whatever the order of its parts, a snapshot is taken in by the last of them, as if they came in the order of their places.
func TestV6AnyOrder(t *testing.T) {
	parts := [][]byte{
		shot(t, 7, 0, 3, 5, "03 00 02 01 00 01 14 0a 02 05 01 28 02 06"),
		shot(t, 7, 1, 3, 5, "03 00 04 01 00 01 14 0c 04 01 00 02 02 02 02"),
		shot(t, 7, 2, 3, 5, "03 00 06 01 00 02 16 08 06 05 01 2a 04 08"),
	}
	for _, order := range [][]int{{0, 1, 2}, {0, 2, 1}, {1, 0, 2}, {1, 2, 0}, {2, 0, 1}, {2, 1, 0}} {
		v := newViewer(t, "A", "B")
		for _, i := range order {
			sees(t, v, "#0 false 0 0 [0 0 0] [] [] 0 [0 0 0] [] []")
			hear(t, v, parts[i], api.OK)
		}
		const want = "#7 false 0 3 [0 0 0] [{10 6 2}] [{11 4 3}] 0 [21 2 4] [] []"
		sees(t, v, want)
		for _, i := range order { // once more: as it is
			hear(t, v, parts[i], api.OK)
			sees(t, v, want)
		}
		hear(t, v, changes(t, 8, "01 00 01 14 02 02"), api.OK)
		sees(t, v, "#8 false 0 3 [0 0 0] [{10 7 3}] [{11 4 3}] 0 [21 2 4] [] []")
	}
}

// TestV6NothingElse: what a snapshot does not tell is as if it had never been; high is its number, also if it was greater.
func TestV6NothingElse(t *testing.T) {
	v := newViewer(t, "A", "B")
	hear(t, v, changes(t, 1, "03 00 06 01 00 01 14 0a 02 02 00 00 02 03 01 06 01 01 02 14 0a 02 02 01 00 02"), api.OK)
	hear(t, v, changes(t, 99, "03 00 00"), api.OK)
	hear(t, v, shot(t, 5, 0, 1, 0, "01 01 01 12 0a 02"), api.OK)
	sees(t, v, "#5 false 0 0 [0 0 0] [] [] 0 [0 0 0] [{9 5 1}] []")
	hear(t, v, changes(t, 8, "03 00 00"), api.OK)
	sees(t, v, "#5 true 6 0 [0 0 0] [] [] 0 [0 0 0] [{9 5 1}] []")
	hear(t, v, shot(t, 5, 0, 1, 0, ""), api.OK) // as of n: it counts
	sees(t, v, "#5 false 0 0 [0 0 0] [] [] 0 [0 0 0] [] []")
	hear(t, v, shot(t, 4, 0, 1, 9, "03 00 06"), api.OK) // below n: it does not
	hear(t, v, shot(t, 0, 0, 1, 9, "03 00 06"), api.OK)
	sees(t, v, "#5 false 0 0 [0 0 0] [] [] 0 [0 0 0] [] []")
	w := newViewer(t, "A")
	hear(t, w, shot(t, 0, 0, 1, 0, "03 00 06"), api.OK)
	sees(t, w, "#0 false 0 3 [0 0 0] [] []")
	hear(t, w, shot(t, 999999999, 0, 1, 0, "03 00 04"), api.OK)
	sees(t, w, "#999999999 false 0 2 [0 0 0] [] []")
	hear(t, w, changes(t, 999999999, "03 00 00"), api.OK)
	sees(t, w, "#999999999 false 0 2 [0 0 0] [] []")
}

// TestV6WhichParts: of which snapshot parts are collected, when those of several come. All have two parts.
func TestV6WhichParts(t *testing.T) {
	type come struct {
		number, part, parts int
		time                int64
		phase               int
	}
	for _, x := range []struct {
		what  string
		l     []come
		n     int
		phase int
	}{
		{"the first one of a place counts", []come{{5, 0, 2, 0, 1}, {5, 0, 2, 0, 2}, {5, 1, 2, 0, 9}}, 5, 1},
		{"a lesser number is let be", []come{{5, 0, 2, 0, 1}, {4, 0, 2, 9, 2}, {4, 1, 2, 9, 9}, {5, 1, 2, 0, 9}}, 5, 1},
		{"also one that is whole", []come{{5, 0, 2, 0, 1}, {4, 0, 1, 9, 2}}, 0, 0},
		{"an earlier time is let be", []come{{5, 0, 2, 7, 1}, {5, 1, 2, 6, 2}, {5, 0, 1, 6, 2}}, 0, 0},
		{"another count is let be", []come{{5, 0, 2, 7, 1}, {5, 0, 1, 7, 2}, {5, 1, 3, 7, 2}}, 0, 0},
		{"and what was collected stays", []come{{5, 0, 2, 7, 1}, {5, 1, 2, 6, 2}, {5, 0, 1, 7, 2}, {5, 1, 3, 7, 2}, {5, 1, 2, 7, 9}}, 5, 1},
		{"a greater number forgets", []come{{5, 0, 2, 7, 1}, {6, 0, 2, 0, 2}, {5, 1, 2, 7, 9}}, 0, 0},
		{"and is collected itself", []come{{5, 0, 2, 7, 1}, {6, 0, 2, 0, 2}, {5, 1, 2, 7, 9}, {6, 1, 2, 0, 9}}, 6, 2},
		{"also with another count", []come{{5, 0, 2, 7, 1}, {6, 1, 3, 7, 9}, {6, 0, 3, 7, 2}, {6, 2, 3, 7, 9}}, 6, 2},
		{"a later time forgets", []come{{5, 0, 2, 7, 1}, {5, 1, 2, 8, 9}, {5, 1, 2, 7, 9}}, 0, 0},
		{"and is collected itself", []come{{5, 0, 2, 7, 1}, {5, 1, 2, 8, 9}, {5, 0, 2, 7, 3}, {5, 0, 2, 8, 2}}, 5, 2},
		{"also with another count", []come{{5, 0, 2, 7, 1}, {5, 0, 1, 8, 2}}, 5, 2},
		{"what was taken in is no longer collected", []come{{5, 0, 1, 9, 1}, {5, 0, 1, 3, 2}}, 5, 2},
		{"nor does it keep others out", []come{{5, 0, 1, 9, 1}, {5, 0, 2, 9, 2}, {5, 1, 2, 9, 9}}, 5, 2},
		{"the greatest number and the last time are any", []come{{999999999, 0, 2, api.MaxTime, 1}, {999999999, 1, 2, api.MaxTime, 9}}, 999999999, 1},
	} {
		v := newViewer(t, "A")
		for _, c := range x.l {
			notice := fmt.Sprintf("03 00 %02x", 2*c.phase)
			if c.phase == 9 {
				notice = ""
			}
			hear(t, v, shot(t, c.number, c.part, c.parts, c.time, notice), api.OK)
		}
		if v.Number() != x.n || v.Phase("A") != x.phase {
			t.Errorf("%s: the number %d and the phase %d, want %d and %d", x.what, v.Number(), v.Phase("A"), x.n, x.phase)
		}
	}
}

// TestV6AmongChanges: parts count as long as n has not gone above their number.
func TestV6AmongChanges(t *testing.T) {
	v := newViewer(t, "A")
	hear(t, v, shot(t, 2, 0, 2, 0, "03 00 02"), api.OK)
	hear(t, v, changes(t, 1, "03 00 06"), api.OK)
	hear(t, v, changes(t, 2, "03 00 08"), api.OK)
	hear(t, v, changes(t, 4, "03 00 08"), api.OK)
	sees(t, v, "#2 true 3 4 [0 0 0] [] []")
	hear(t, v, shot(t, 2, 1, 2, 0, ""), api.OK)
	sees(t, v, "#2 false 0 1 [0 0 0] [] []")
	hear(t, v, shot(t, 3, 0, 2, 9, "03 00 04"), api.OK)
	hear(t, v, changes(t, 3, "03 00 06"), api.OK)
	hear(t, v, changes(t, 4, "03 00 08"), api.OK)
	hear(t, v, shot(t, 3, 1, 2, 9, ""), api.OK)
	sees(t, v, "#4 false 0 4 [0 0 0] [] []")
	if v.collected != nil {
		t.Error("parts that can't be taken in are kept")
	}
	hear(t, v, shot(t, 4, 0, 2, 1, "03 00 0a"), api.OK) // earlier than those that came to nothing
	hear(t, v, shot(t, 4, 1, 2, 1, ""), api.OK)
	sees(t, v, "#4 false 0 5 [0 0 0] [] []")
}

// TestV6ManyParts: a snapshot of 255 parts, the last place first.
func TestV6ManyParts(t *testing.T) {
	v := newViewer(t, "A")
	var want []api.Level
	for i := 254; i >= 0; i-- {
		if v.Number() != 0 {
			t.Fatalf("taken in with %d parts missing", i+1)
		}
		hear(t, v, heard{number: 9, kind: 2, part: i, parts: 255, items: []item{{1, 0, []int64{1, int64(1000 + i), int64(i), 1}}}}.bytes(), api.OK)
		want = append(want, api.Level{Price: int64(1000 + i), Qty: int64(i), Orders: 1})
	}
	if l := v.Depth("A", api.Buy); !slices.Equal(l, want) || v.Number() != 9 {
		t.Errorf("#%d %v", v.Number(), l)
	}
}

func TestV7Others(t *testing.T) {
	v := newViewer(t, "A", "B")
	hear(t, v, changes(t, 1, "03 00 06 01 00 01 14 0a 02 01 00 02 02 0a 02 02 00 00 02"), api.OK)
	for _, symbol := range []string{"", "C", "a", "A ", "AB", "\x00", strings.Repeat("A", 1000)} {
		p, q, all := v.Last(symbol)
		if len(v.Depth(symbol, 1)) != 0 || len(v.Depth(symbol, 2)) != 0 || v.Phase(symbol) != 0 || p != 0 || q != 0 || all != 0 {
			t.Errorf("of %q something is told", symbol)
		}
	}
	for _, side := range []int{0, 3, -1, 257, math.MaxInt, math.MinInt} {
		if l := v.Depth("A", side); len(l) != 0 {
			t.Errorf("Depth(A, %d): %v", side, l)
		}
	}
}

// TestV7BestFirst: whatever the order in which levels came.
func TestV7BestFirst(t *testing.T) {
	v := newViewer(t, "A")
	n := 0
	for i := range 200 {
		n++
		price := int64(1 + i*7919%200*5000000)
		hear(t, v, heard{number: n, kind: 1, items: []item{{1, 0, []int64{1, price, 1, 1}}, {1, 0, []int64{2, price, 2, 2}}}}.bytes(), api.OK)
	}
	buys, sells := v.Depth("A", api.Buy), v.Depth("A", api.Sell)
	if len(buys) != 200 || len(sells) != 200 {
		t.Fatalf("%d and %d", len(buys), len(sells))
	}
	for i := range 200 {
		price := int64(1 + i*5000000)
		if sells[i] != (api.Level{Price: price, Qty: 2, Orders: 2}) || buys[199-i] != (api.Level{Price: price, Qty: 1, Orders: 1}) {
			t.Errorf("at %d: %v, %v", price, sells[i], buys[199-i])
		}
	}
}

// TestP3Memory writes into what was handed in, and into what came out.
func TestP3Memory(t *testing.T) {
	symbols := []string{"A", "B"}
	v, e := New(symbols)
	if e != api.OK {
		t.Fatal(e)
	}
	symbols[0], symbols[1] = "B", "X"
	lend := func(b []byte) {
		t.Helper()
		room := append(slices.Clone(b), 1, 2, 3)
		hear(t, v, room[:len(b)], api.OK)
		if string(room) != string(b)+"\x01\x02\x03" {
			t.Error("the packet, or what stands behind it, was written into")
		}
		clear(room)
	}
	lend(changes(t, 1, "01 00 01 14 0a 02 01 00 01 02 0a 02 03 01 06"))
	lend(shot(t, 3, 0, 2, 0, "01 00 01 14 0a 02 01 00 01 02 0a 02 03 01 06"))
	lend(shot(t, 3, 1, 2, 0, "01 00 02 18 0a 02 05 00 00 02 04"))
	const want = "#3 false 0 0 [12 1 2] [{11 5 1} {10 5 1}] [{12 5 1}] 3 [0 0 0] [] []"
	sees(t, v, want)
	for range 2 {
		a, b := v.Depth("A", api.Buy), v.Depth("A", api.Buy)
		clear(a[:cap(a)])
		if b[0].Price != 11 || b[1].Price != 10 {
			t.Errorf("two answers share memory: %v", b)
		}
		clear(b[:cap(b)])
		sees(t, v, want)
	}
}

// TestRule8GoneLevelsAreForgotten: nothing stays of levels that are gone, nor of parts of snapshots.
func TestRule8GoneLevelsAreForgotten(t *testing.T) {
	v := newViewer(t, "A")
	for n := range 1000 {
		hear(t, v, shot(t, 2*n, 0, 255, int64(n), "03 00 06"), api.OK)
		hear(t, v, heard{number: 2*n + 1, kind: 1, items: []item{{1, 0, []int64{1, int64(1 + n), 5, 1}}}}.bytes(), api.OK)
		hear(t, v, heard{number: 2*n + 2, kind: 1, items: []item{{1, 0, []int64{1, int64(1 + n), 5, -1}}, {1, 0, []int64{2, int64(5 + n), 5, 0}}}}.bytes(), api.OK)
	}
	if len(v.known.levels) != 0 || v.collected != nil {
		t.Errorf("%d levels, %v", len(v.known.levels), v.collected)
	}
}

// TestP4ViewersAreTheirOwn: viewers have nothing to do with one another, also when goroutines use them, each its own.
func TestP4ViewersAreTheirOwn(t *testing.T) {
	var packets [][]byte
	for n := range 300 {
		packets = append(packets, heard{number: n + 1, kind: 1, items: []item{{1, 0, []int64{1 + int64(n%2), int64(1 + n*n%97), 3, 1}}, {2, 0, []int64{int64(n), 1}}}}.bytes())
	}
	symbols := []string{"A"}
	hearAll := func() string {
		v, _ := New(symbols)
		for _, b := range packets {
			v.Hear(b)
		}
		return told(v, symbols)
	}
	want := hearAll()
	var all sync.WaitGroup
	for range 8 {
		all.Go(func() {
			if got := hearAll(); got != want {
				t.Errorf("another viewer tells %s", got)
			}
		})
	}
	all.Wait()
	sees(t, newViewer(t, "A"), "#0 false 0 0 [0 0 0] [] []")
}
