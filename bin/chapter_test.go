package bin

import (
	"bytes"
	"encoding/binary"
	"hash/crc32"
	"math"
	"math/rand"
	"reflect"
	"strconv"
	"strings"
	"sync"
	"testing"

	"outcry/api"
	"outcry/msg"
)

// A second reading of the chapter, by other means, against which the package is held.

const (
	// The fields in the order of their places.
	order = "49 Sender 56 Target 34 Seq 43 Dup 52 Time 122 OrigTime 108 Beat 141 Reset 112 TestID 7 Begin 16 End 36 Next 123 Fill 45 RefSeq 372 RefKind 371 RefTag 373 Reason 58 Text 11 ID 41 OrigID 1 Account 55 Symbol 54 Side 40 Type 59 Life 44 Price 99 Stop 38 Qty 111 Show 110 Least 432 Until 37 OrderID 17 ExecID 150 Exec 39 State 31 LastPrice 32 LastQty 151 Left 14 Done 326 Phase 533 Count"

	// How many bytes a field's place has.
	widths = `truth 1: 43 141 123
number 1: 372 54 40 59 150 39 326
number 2: 108 371 373
number 4: 34 7 16 36 45 44 99 38 111 110 432 37 17 31 32 151 14 533
number 8: 52 122
text 8: 55
text 12: 49 56 1
text 20: 112 11 41
text 60: 58`
)

// spot: a field's place in the frames of a kind.
type spot struct {
	number   int
	field    string
	form     string
	at, size int
}

// plan: the places of a kind.
type plan struct {
	spots     []spot
	end, size int // of the fields, of the frame
}

func (p plan) spot(number int) spot {
	for _, s := range p.spots {
		if s.number == number {
			return s
		}
	}
	return spot{}
}

var plans = sync.OnceValue(func() [18]plan {
	var all [18]plan
	for kind := 1; kind <= 17; kind++ {
		all[kind] = readPlan(kind)
	}
	return all
})

func readPlan(kind int) plan {
	p := plan{end: 10}
	words := strings.Fields(order)
	for i := 0; i < len(words); i += 2 {
		number, _ := strconv.Atoi(words[i])
		if msg.Has(kind, number) == 0 {
			continue
		}
		form, size := widthOf(words[i])
		p.spots = append(p.spots, spot{number, words[i+1], form, p.end, size})
		p.end += size
	}
	for p.size = p.end; (p.size-10)%8 != 0; p.size++ {
	}
	return p
}

func widthOf(number string) (form string, size int) {
	for _, line := range strings.Split(widths, "\n") {
		what, numbers, _ := strings.Cut(line, ":")
		if strings.Contains(numbers+" ", " "+number+" ") {
			form, bytes, _ := strings.Cut(what, " ")
			size, _ = strconv.Atoi(bytes)
			return form, size
		}
	}
	return "", 0
}

// seal gives bytes of at least a head their right sum.
func seal(b []byte) []byte {
	sum := crc32.NewIEEE()
	sum.Write(b[:6])
	sum.Write(b[10:])
	binary.BigEndian.PutUint32(b[6:], sum.Sum32())
	return b
}

// chapterFrame is B1, of a valid message.
func chapterFrame(m api.Msg) []byte {
	p := plans()[m.Kind]
	b := make([]byte, p.size)
	copy(b, "OC")
	binary.BigEndian.PutUint16(b[2:], uint16(p.size))
	b[4], b[5] = byte(m.Kind), 1
	for _, s := range p.spots {
		v := reflect.ValueOf(m).FieldByName(s.field)
		switch s.form {
		case "truth":
			if v.Bool() {
				b[s.at] = 1
			}
		case "number":
			copy(b[s.at:], binary.BigEndian.AppendUint64(nil, uint64(v.Int()))[8-s.size:])
		case "text":
			copy(b[s.at:], v.String())
		}
	}
	return seal(b)
}

// chapterSays is B2: a message, or a fault.
func chapterSays(b []byte) (api.Msg, api.Fault) {
	f := headSays(b)
	if f.Err != api.OK {
		return api.Msg{}, f
	}
	p := plans()[b[4]]
	m := api.Msg{Kind: int(b[4])}
	for _, s := range p.spots {
		place := b[s.at : s.at+s.size]
		v := reflect.ValueOf(&m).Elem().FieldByName(s.field)
		switch s.form {
		case "truth":
			if place[0] != 0 && place[0] != 1 {
				return api.Msg{}, api.Fault{At: s.at, Err: api.ErrValue}
			}
			v.SetBool(place[0] == 1)
		case "number":
			v.SetInt(numberIn(place))
		case "text":
			word, rest, _ := bytes.Cut(place, []byte{0})
			for i, c := range rest {
				if c != 0 {
					return api.Msg{}, api.Fault{At: s.at + len(word) + 1 + i, Err: api.ErrPad}
				}
			}
			v.SetString(string(word))
		}
	}
	for i := p.end; i < p.size; i++ {
		if b[i] != 0 {
			return api.Msg{}, api.Fault{At: i, Err: api.ErrPad}
		}
	}
	if e, number := msg.Valid(m); e != api.OK {
		return api.Msg{}, api.Fault{At: p.spot(number).at, Err: e}
	}
	return m, api.Fault{}
}

// numberIn tells the number of a place; one above 2^63 - 1 may stand nowhere, like this one.
func numberIn(place []byte) int64 {
	n := binary.BigEndian.Uint64(append(make([]byte, 8-len(place)), place...))
	return int64(min(n, math.MaxInt64))
}

func headSays(b []byte) api.Fault {
	told := func(e api.Errno, at int) api.Fault { return api.Fault{At: at, Err: e} }
	switch {
	case len(b) > 0 && b[0] != 0x4f:
		return told(api.ErrFrame, 0)
	case len(b) > 1 && b[1] != 0x43:
		return told(api.ErrFrame, 1)
	case len(b) < 10:
		return told(api.ErrFrame, len(b))
	case b[4] < 1 || b[4] > 17:
		return told(api.ErrTemplate, 4)
	case b[5] != 1:
		return told(api.ErrTemplate, 5)
	case int(b[2])*256+int(b[3]) != len(b):
		return told(api.ErrLength, 2)
	case len(b) != plans()[b[4]].size:
		return told(api.ErrBlock, 2)
	case !bytes.Equal(seal(bytes.Clone(b)), b):
		return told(api.ErrSum, 6)
	}
	return api.Fault{}
}

// holdAgainstChapter asks the package of bytes what the chapter says of them.
func holdAgainstChapter(t *testing.T, b []byte) {
	t.Helper()
	m, f := chapterSays(b)
	if f.Err == api.OK {
		wantMsg(t, b, m)
	} else {
		wantFault(t, b, f.Err, f.At)
	}
}

// anyMsg makes a message that is valid; kind 0: of any kind.
func anyMsg(r *rand.Rand, kind int) api.Msg {
	for {
		m := api.Msg{Kind: kind}
		if kind == 0 {
			m.Kind = 1 + r.Intn(17)
		}
		for _, s := range plans()[m.Kind].spots {
			if msg.Has(m.Kind, s.number) == 2 || r.Intn(2) == 0 {
				putAny(r, s, &m)
			}
		}
		if e, _ := msg.Valid(m); e == api.OK {
			return m
		}
	}
}

// putAny tries what may stand in a field.
func putAny(r *rand.Rand, s spot, m *api.Msg) {
	v := reflect.ValueOf(m).Elem().FieldByName(s.field)
	switch s.form {
	case "truth":
		v.SetBool(true)
	case "text":
		v.SetString(anyText(r, s))
	case "number":
		v.SetInt(anyNumber(r, s))
	}
}

func anyText(r *rand.Rand, s spot) string {
	const capitals = "ABCDEFGHIJKLMNOPQRSTUVWXYZ"
	signs := capitals + "0123456789"
	switch s.number {
	case 11, 41:
		signs += "abcdefghijklmnopqrstuvwxyz._-"
	case 58, 112:
		signs += "abcdefghijklmnopqrstuvwxyz._- !\"#$%&'()*+,/:;<=>?@[\\]^`{}~"
	}
	out := string(capitals[r.Intn(26)])
	for n := r.Intn(s.size); len(out) <= n; {
		out += string(signs[r.Intn(len(signs))])
	}
	return out
}

func anyNumber(r *rand.Rand, s spot) int64 {
	most := map[int]int64{
		52: api.MaxTime, 122: api.MaxTime, 108: 3600, 372: 17, 371: 9999, 373: 999, 54: 2, 40: 4, 59: 7,
		44: api.MaxPrice, 99: api.MaxPrice, 38: api.MaxQty, 111: api.MaxQty, 110: api.MaxQty,
		150: 8, 39: 6, 31: api.MaxPrice, 32: api.MaxQty, 151: api.MaxQty, 14: api.MaxQty, 326: 5,
	}[s.number]
	if most == 0 {
		most = api.MaxSeq
	}
	if s.number == 432 {
		return []int64{19700101, 20240229, 20261120, 99991231}[r.Intn(4)]
	}
	if r.Intn(3) == 0 {
		return []int64{1, min(2, most), most - 1, most}[r.Intn(4)]
	}
	return 1 + r.Int63n(most)
}
