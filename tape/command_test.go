package tape

import (
	"bytes"
	"encoding/hex"
	"errors"
	"math"
	"reflect"
	"strings"
	"testing"

	"outcry/api"
)

func unhex(t *testing.T, s string) []byte {
	t.Helper()
	b, err := hex.DecodeString(strings.ReplaceAll(s, " ", ""))
	if err != nil {
		t.Fatal(err)
	}
	return b
}

// wantBoth: a command and its bytes are each other's.
func wantBoth(t *testing.T, c api.Command, b []byte) {
	t.Helper()
	if got, e := Encode(c); e != api.OK || !bytes.Equal(got, b) {
		t.Errorf("Encode(%#v): %x, %d, want %x", c, got, e, b)
	}
	if got, err := Decode(b); err != nil || got != c {
		t.Errorf("Decode(%x): %#v, %v, want %#v", b, got, err, c)
	}
}

// wantFault: bytes are none of a command, and are wrong at a place.
func wantFault(t *testing.T, b []byte, at int) {
	t.Helper()
	c, err := Decode(b)
	f, ok := err.(*api.Fault)
	if !ok || f == nil || *f != (api.Fault{At: at, Err: api.ErrTape}) || c != (api.Command{}) || !errors.Is(err, api.ErrTape) {
		t.Errorf("Decode(%x): %#v, %v, want a fault at %d", b, c, err, at)
	}
}

// wantRefused: neither Encode nor Append takes a command.
func wantRefused(t *testing.T, c api.Command, want api.Errno) {
	t.Helper()
	if b, e := Encode(c); b != nil || e != want {
		t.Errorf("Encode(%#v): %x, %d, want %d", c, b, e, want)
	}
	first := api.Command{Kind: api.DoTime, Time: 300}
	a := New()
	appended(t, a, first)
	if e := a.Append(c); e != want {
		t.Errorf("Append(%#v): %d, want %d", c, e, want)
	}
	holds(t, a, first)
}

// full is a command with all its fields, each another one.
func full() api.Command {
	return api.Command{
		Kind: api.DoLimits, Time: 1, Owner: 2, Name: "a",
		O:       api.Order{ID: 3, Name: "bb", Account: "ccc", Symbol: "\x00\xff|\n", Side: 4, Type: 5, Life: 6, Price: 63, Stop: 64, Qty: 8191, Show: 8192, Least: 9, Until: 20261114, Owner: 10, Done: 11},
		Account: api.Account{Name: "e", Order: 12, Open: 13, Position: 14, Burst: 15, Per: greatest},
	}
}

// widest is a command with all its fields as great as they may be.
func widest() api.Command {
	c := api.Command{Kind: api.DoLimits}
	for _, v := range spots(&c) {
		if isText(v) {
			v.SetString(strings.Repeat("\xff", longest))
		} else {
			v.SetInt(greatest)
		}
	}
	return c
}

func TestChapterExamples(t *testing.T) {
	wantBoth(t, api.Command{Kind: 5, Time: 300}, []byte{0x0a, 0x02, 0xd8, 0x04})
	wantBoth(t, api.Command{Kind: 6}, []byte{0x0c, 0x00})
	if b := New().Bytes(); !bytes.Equal(b, []byte{0x4f, 0x54, 0x41, 0x50}) {
		t.Errorf("New().Bytes(): %x", b)
	}
}

// The bytes stand here one by one, spaces between the fields.
func TestA5BytesOneByOne(t *testing.T) {
	for written, c := range map[string]api.Command{
		"02 00":                 {Kind: 1},
		"12 00":                 {Kind: 9},
		"02 02 02":              {Kind: 1, Time: 1},
		"02 04 7e":              {Kind: 1, Owner: 63},
		"02 04 8001":            {Kind: 1, Owner: 64},
		"04 08 02 61":           {Kind: 2, Name: "a"},
		"06 0e 02 04 06 616263": {Kind: 3, Time: 1, Owner: 2, Name: "abc"},
		"02 10 02":              {Kind: 1, O: api.Order{ID: 1}},
		"02 8001 02 00":         {Kind: 1, O: api.Order{Symbol: "\x00"}},
		"10 808020 02 42":       {Kind: 8, Account: api.Account{Name: "B"}},
		"12 feffff0f 02 04 02 61 06 04 6262 06 636363 08 00ff7c0a 08 0a 0c 7e 8001 fe7f 808001 12 f4a3a913 14 16 02 65 18 1a 1c 1e 80 80 a0 f6 f4 ac db e0 1b": full(),
	} {
		wantBoth(t, c, unhex(t, written))
	}
}

// TestA5EachFieldAlone has each field at its bounds: it is the one with its bit.
func TestA5EachFieldAlone(t *testing.T) {
	names := strings.Fields(order)
	if len(names) != 24 {
		t.Fatalf("%d fields", len(names))
	}
	for bit, name := range names {
		for _, n := range []int64{1, 2, 63, 64, 1 << 31, 1<<31 - 1, 1 << 32, greatest - 1, greatest} {
			c := api.Command{Kind: 4}
			v := spots(&c)[bit]
			if isText(v) {
				v.SetString(strings.Repeat("z", int(1+n%longest)))
			} else {
				v.SetInt(n)
			}
			b := chapterBytes(c)
			wantBoth(t, c, b)
			if r := (&reading{b: b, at: 1}); r.number(0, math.MaxInt64) != 1<<bit {
				t.Errorf("%s: the mask of %x", name, b)
			}
		}
	}
}

// TestA5NoFieldIsForgotten: there are no fields of a command but the kind and those of the mask.
func TestA5NoFieldIsForgotten(t *testing.T) {
	var count func(v reflect.Type) int
	count = func(v reflect.Type) (n int) {
		if v.Kind() != reflect.Struct {
			return 1
		}
		for i := range v.NumField() {
			n += count(v.Field(i).Type)
		}
		return n
	}
	if n := count(reflect.TypeOf(api.Command{})); n != 25 {
		t.Errorf("%d fields", n)
	}
}

func TestA5Kinds(t *testing.T) {
	for kind := 1; kind <= 9; kind++ {
		wantBoth(t, api.Command{Kind: kind}, []byte{byte(2 * kind), 0})
	}
	for _, kind := range []int{math.MinInt, -9, -1, 0, 10, 11, 256, 257, 1 << 32, 1<<32 + 1, math.MaxInt} {
		wantRefused(t, api.Command{Kind: kind}, api.ErrKind)
		wantRefused(t, api.Command{Kind: kind, Time: -1, Name: strings.Repeat("x", 61)}, api.ErrKind)
	}
}

func TestA5FieldsThatMayNotBe(t *testing.T) {
	for bit, name := range strings.Fields(order) {
		for _, base := range []api.Command{{Kind: 1}, full(), widest()} {
			c := base
			v := spots(&c)[bit]
			if isText(v) {
				for _, s := range []string{strings.Repeat("x", 61), strings.Repeat("é", 31), strings.Repeat("\x00", 100000)} {
					v.SetString(s)
					wantRefused(t, c, api.ErrArg)
				}
				v.SetString(strings.Repeat("é", 30))
			} else {
				for _, n := range []int64{-1, -2, math.MinInt64, -greatest, greatest + 1, math.MaxInt64} {
					v.SetInt(n)
					wantRefused(t, c, api.ErrArg)
				}
				v.SetInt(greatest)
			}
			if e := chapterMayBe(c); e != api.OK {
				t.Fatalf("%s: %d", name, e)
			}
			wantBoth(t, c, chapterBytes(c))
		}
	}
}

// TestA5HowLongAtMost: the chapter bounds a command by 600 bytes.
func TestA5HowLongAtMost(t *testing.T) {
	b, e := Encode(widest())
	if e != api.OK || len(b) != 1+4+19*9+5*61 || len(b) > 600 {
		t.Errorf("%d bytes, %d", len(b), e)
	}
	wantBoth(t, widest(), b)
}

func TestA5WhereBytesAreWrong(t *testing.T) {
	const long = "ffffffffffffffffff"
	for _, x := range []struct {
		b  string
		at int
	}{
		{"", 0},                             // no kind
		{"00 00", 0},                        // kind 0
		{"01 00", 0},                        // kind -1
		{"14 00", 0},                        // kind 10
		{"8a00 00", 0},                      // kind 5 in more bytes than it needs
		{"80", 0},                           // it ends within the kind
		{long + "01", 0},                    // the least number there is
		{long + "02", 0},                    // none of 64 bits
		{long + "ff", 0},                    // nor this
		{"8204 00", 0},                      // kind 257
		{"0a", 1},                           // no mask
		{"0a 01", 1},                        // mask -1
		{"0a 80", 1},                        // it ends within the mask
		{"0a 8000", 1},                      // mask 0 in more bytes than it needs
		{"0a 80808010", 1},                  // mask 2^24
		{"0a 82808010 02", 1},               // mask 2^24 + 1
		{"0a " + long + "01 02", 1},         // a mask below 0
		{"0a feffffffffffffffff01", 1},      // the greatest number there is
		{"0a 00 00", 2},                     // something behind it
		{"0a 00 ff", 2},                     // and something else
		{"0a 02", 2},                        // no time
		{"0a 02 00", 2},                     // a time of 0
		{"0a 02 01", 2},                     // of -1
		{"0a 02 80", 2},                     // it ends within
		{"0a 02 8000", 2},                   // 0 in more bytes than it needs
		{"0a 02 8280 00", 2},                // 1 likewise
		{"0a 02 8280a0f6f4acdbe01b", 2},     // 10^18 + 1
		{"0a 02 " + long + "01", 2},         // the least number there is
		{"0a 02 feffffffffffffffff01", 2},   // the greatest
		{"0a 02 02 00", 3},                  // something behind it
		{"0a 02 8080a0f6f4acdbe01b 00", 11}, // likewise
		{"0a 06 02", 3},                     // no owner
		{"0a 06 d804 00", 4},                // an owner of 0
		{"0a 08", 2},                        // no length
		{"0a 08 00", 2},                     // of 0
		{"0a 08 01 61", 2},                  // of -1
		{"0a 08 7a" + strings.Repeat("61", 61), 2},      // of 61
		{"0a 08 8001" + strings.Repeat("61", 64), 2},    // of 64
		{"0a 08 feffffffffffffffff01 61", 2},            // the greatest number there is
		{"0a 08 8200 61", 2},                            // in more bytes than it needs
		{"0a 08 02", 3},                                 // no text
		{"0a 08 04 61", 4},                              // not all of it
		{"0a 08 78" + strings.Repeat("61", 59), 62},     // likewise
		{"0a 08 78" + strings.Repeat("61", 61), 63},     // more than all of it
		{"0a 2a 02 02 61 02", 6},                        // no second text behind a number and a text
		{"0a 2a 02 02 61 04 62", 7},                     // not all of it
		{"0a feffff0f 02", 6},                           // all bits, and one number
		{"0a 80808008 00", 5},                           // the last bit, and 0
		{"0a 80808008 8280a0f6f4acdbe01b", 5},           // and 10^18 + 1
		{"0a 80808008 02 0a 80808008 02", 6},            // a command behind it
		{"12 808020 7a" + strings.Repeat("61", 61), 4},  // the last text
		{"12 808020 78" + strings.Repeat("61", 58), 63}, // not all of it
	} {
		wantFault(t, unhex(t, x.b), x.at)
	}
}

// TestA5EachFieldWrong has each field wrong in all ways, behind all others: the place is where it begins, or where the bytes end.
func TestA5EachFieldWrong(t *testing.T) {
	c := full()
	for bit, v := range spots(&c) {
		ahead := api.Command{Kind: c.Kind}
		for i, w := range spots(&ahead)[:bit] {
			w.Set(spots(&c)[i])
		}
		front := append(unhex(t, "12 feffff0f"), valuesOf(ahead)...)
		for _, wrong := range []string{"", "00", "01", "80", "8000", "8200", "8280a0f6f4acdbe01b", "ffffffffffffffffff01", "ffffffffffffffffff7f"} {
			wantFault(t, append(bytes.Clone(front), unhex(t, wrong)...), len(front))
		}
		if isText(v) {
			wantFault(t, append(bytes.Clone(front), append([]byte{0x7a}, make([]byte, 200)...)...), len(front))
			wantFault(t, append(bytes.Clone(front), append([]byte{0x78}, make([]byte, 59)...)...), len(front)+60)
			wantFault(t, append(bytes.Clone(front), 0x02), len(front)+1)
		}
	}
	for cut := range chapterBytes(c) {
		if _, err := Decode(chapterBytes(c)[:cut]); err == nil {
			t.Errorf("%d bytes of the command are taken", cut)
		}
	}
}

// valuesOf gives the fields of a command without kind and mask.
func valuesOf(c api.Command) []byte {
	r := &reading{b: chapterBytes(c)}
	r.number(1, 9)
	r.number(0, math.MaxInt64)
	return r.b[r.at:]
}

// TestP3CommandsAndBytesAreTheCallers writes into all that comes out, and into what was handed in.
func TestP3CommandsAndBytesAreTheCallers(t *testing.T) {
	c := full()
	want := chapterBytes(c)
	b, _ := Encode(c)
	spoil(b)
	wantBoth(t, c, want)

	room := append(bytes.Clone(want), "more"...)
	handed := room[:len(want)]
	got, err := Decode(handed)
	if err != nil || !bytes.Equal(room, append(bytes.Clone(want), "more"...)) {
		t.Errorf("%v: %x was written into", err, room)
	}
	spoil(handed)
	if got != c {
		t.Errorf("%#v shares memory with its bytes", got)
	}
	_, one := Decode(nil)
	_, two := Decode(nil)
	one.(*api.Fault).At = 7
	if two.(*api.Fault).At != 0 {
		t.Error("two faults are one")
	}
	wantFault(t, nil, 0)
}

// spoil writes into a list and its spare room.
func spoil(b []byte) {
	b = b[:cap(b)]
	for i := range b {
		b[i] ^= 0xa5
	}
}
