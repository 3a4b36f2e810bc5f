package tape

import (
	"bytes"
	"encoding/binary"
	"hash/crc32"
	"math/rand"
	"reflect"
	"strings"
	"testing"

	"outcry/api"
)

// A second reading of the chapter, by other means, against which the package is held.

// The fields in the order of their bits.
const order = "Time Owner Name O.ID O.Name O.Account O.Symbol O.Side O.Type O.Life O.Price O.Stop O.Qty O.Show O.Least O.Until O.Owner O.Done Account.Name Account.Order Account.Open Account.Position Account.Burst Account.Per"

const (
	greatest = 1000000000000000000
	longest  = 60
)

// spots gives the fields of a command, to be read and written.
func spots(c *api.Command) []reflect.Value {
	var l []reflect.Value
	for _, name := range strings.Fields(order) {
		v := reflect.ValueOf(c).Elem()
		for _, part := range strings.Split(name, ".") {
			v = v.FieldByName(part)
		}
		l = append(l, v)
	}
	return l
}

func isText(v reflect.Value) bool { return v.Kind() == reflect.String }

// chapterMayBe tells whether a command may be written.
func chapterMayBe(c api.Command) api.Errno {
	if c.Kind < 1 || c.Kind > 9 {
		return api.ErrKind
	}
	for _, v := range spots(&c) {
		if isText(v) && v.Len() > longest || !isText(v) && (v.Int() < 0 || v.Int() > greatest) {
			return api.ErrArg
		}
	}
	return api.OK
}

// chapterBytes writes a command, which may be written.
func chapterBytes(c api.Command) []byte {
	var mask int64
	var rest []byte
	for bit, v := range spots(&c) {
		switch {
		case v.IsZero():
			continue
		case isText(v):
			rest = append(binary.AppendVarint(rest, int64(v.Len())), v.String()...)
		default:
			rest = binary.AppendVarint(rest, v.Int())
		}
		mask += 1 << bit
	}
	return append(binary.AppendVarint(binary.AppendVarint(nil, int64(c.Kind)), mask), rest...)
}

// reading is bytes that are read from the front: at is the place, or that of the fault.
type reading struct {
	b   []byte
	at  int
	bad bool
}

func (r *reading) number(least, most int64) int64 {
	if r.bad {
		return 0
	}
	n, size := binary.Varint(r.b[r.at:])
	if size <= 0 || n < least || n > most || !bytes.HasPrefix(r.b[r.at:], binary.AppendVarint(nil, n)) || len(binary.AppendVarint(nil, n)) != size {
		r.bad = true
		return 0
	}
	r.at += size
	return n
}

func (r *reading) text() string {
	n := int(r.number(1, longest))
	if r.bad {
		return ""
	}
	if r.at+n > len(r.b) {
		r.at, r.bad = len(r.b), true
		return ""
	}
	r.at += n
	return string(r.b[r.at-n : r.at])
}

// chapterRead reads a command; with false the place of the fault.
func chapterRead(b []byte) (api.Command, int, bool) {
	r := &reading{b: b}
	c := api.Command{Kind: int(r.number(1, 9))}
	mask := r.number(0, 1<<24-1)
	for bit, v := range spots(&c) {
		if r.bad || mask&(1<<bit) == 0 {
			continue
		}
		if isText(v) {
			v.SetString(r.text())
		} else {
			v.SetInt(r.number(1, greatest))
		}
	}
	if r.bad || r.at < len(b) {
		return api.Command{}, r.at, false
	}
	return c, 0, true
}

// chapterRecord writes bytes as the record of a number.
func chapterRecord(n int, command []byte) []byte {
	length := binary.BigEndian.AppendUint16(nil, uint16(len(command)))
	sum := crc32.NewIEEE()
	sum.Write(length)
	sum.Write(binary.BigEndian.AppendUint32(nil, uint32(n)))
	sum.Write(command)
	return append(sum.Sum(length), command...)
}

// chapterTape writes commands, which may be written.
func chapterTape(l ...api.Command) []byte {
	b := []byte{0x4f, 0x54, 0x41, 0x50}
	for n, c := range l {
		b = append(b, chapterRecord(n, chapterBytes(c))...)
	}
	return b
}

// chapterOpen tells the commands of a tape that begins as one, as far as they are right, and how many bytes they have.
func chapterOpen(b []byte) (l []api.Command, at int) {
	for at = 4; len(b) >= at+6; {
		size := int(binary.BigEndian.Uint16(b[at:]))
		if size < 1 || size > 600 || len(b) < at+6+size {
			break
		}
		command := b[at+6 : at+6+size]
		c, _, ok := chapterRead(command)
		if !ok || !bytes.HasPrefix(b[at:], chapterRecord(len(l), command)) {
			break
		}
		l = append(l, c)
		at += 6 + size
	}
	return l, at
}

// randomCommand makes one up that may be written, with more or fewer fields.
func randomCommand(r *rand.Rand) api.Command {
	c := api.Command{Kind: 1 + r.Intn(9)}
	many := r.Intn(5)
	for _, v := range spots(&c) {
		if r.Intn(4) >= many {
			continue
		}
		if isText(v) {
			b := make([]byte, r.Intn(longest+1)>>r.Intn(7))
			r.Read(b)
			v.SetString(string(b))
			continue
		}
		v.SetInt(r.Int63n(greatest+1) >> r.Intn(61))
	}
	return c
}

// spoilt gives bytes of which some are others, gone, or new.
func spoilt(r *rand.Rand, b []byte) []byte {
	b = bytes.Clone(b)
	for range 1 + r.Intn(3) {
		at := r.Intn(len(b) + 1)
		switch r.Intn(5) {
		case 0:
			b = b[:at]
		case 1:
			b = append(b[:at:at], append([]byte{byte(r.Intn(256))}, b[at:]...)...)
		case 2:
			b = append(b[:at:at], b[min(at+1, len(b)):]...)
		case 3:
			b = append(b, byte(r.Intn(3)*64))
		default:
			if at < len(b) {
				b[at] ^= 1 << r.Intn(8)
			}
		}
	}
	return b
}

// TestA5AgainstTheChapter holds Encode and Decode against the second reading, of commands and of bytes that may be wrong.
func TestA5AgainstTheChapter(t *testing.T) {
	r := rand.New(rand.NewSource(18))
	right, wrong := 0, 0
	for range 60000 {
		c := randomCommand(r)
		b := chapterBytes(c)
		wantBoth(t, c, b)
		b = spoilt(r, b)
		if c, at, ok := chapterRead(b); ok {
			right++
			wantBoth(t, c, b)
		} else {
			wrong++
			wantFault(t, b, at)
		}
	}
	if right < 1000 || wrong < 1000 {
		t.Errorf("only %d were right, and %d wrong", right, wrong)
	}
}

// TestA5AllShortBytes goes through all bytes up to three, and through longer ones with bytes near the bounds.
func TestA5AllShortBytes(t *testing.T) {
	check := func(b []byte) {
		c, at, ok := chapterRead(b)
		if !ok {
			wantFault(t, b, at)
		} else {
			wantBoth(t, c, b)
		}
	}
	check(nil)
	for n := range 1 << 16 {
		if n < 1<<8 {
			check([]byte{byte(n)})
		}
		check([]byte{byte(n >> 8), byte(n)})
		check([]byte{0x02, byte(n >> 8), byte(n)})
		check([]byte{0x12, 0x08, byte(n >> 8), byte(n)})
		check([]byte{0x12, 0x0a, byte(n >> 8), byte(n), 0x02})
	}
	near := []byte{0, 1, 2, 3, 4, 8, 0x78, 0x7a, 0x7f, 0x80, 0x81, 0x88, 0xff}
	for n := range 13 * 13 * 13 * 13 * 13 {
		var b []byte
		for ; n > 0; n /= 13 {
			b = append(b, near[n%13])
		}
		check(append([]byte{0x0a}, b...))
	}
}

// TestA2AgainstTheChapter opens tapes, cut and spoilt, and goes on with them.
func TestA2AgainstTheChapter(t *testing.T) {
	r := rand.New(rand.NewSource(2))
	whole, part := 0, 0
	for range 5000 {
		var l []api.Command
		for range r.Intn(8) {
			l = append(l, randomCommand(r))
		}
		b := chapterTape(l...)
		if r.Intn(4) > 0 {
			b = append(b[:4:4], spoilt(r, b[4:])...)
		}
		got, n := chapterOpen(b)
		o := opened(t, b, n, got...)
		if len(got) < len(l) {
			part++
		} else {
			whole++
		}
		c := randomCommand(r)
		appended(t, o, c)
		holds(t, o, append(got, c)...)
	}
	if whole < 500 || part < 500 {
		t.Errorf("only %d tapes were whole, and %d not", whole, part)
	}
}
