package fields

import (
	"bytes"
	"fmt"
	"math"
	"math/rand"
	"slices"
	"strconv"
	"strings"
	"testing"

	"outcry/api"
)

// example is the chapter's frame.
const example = "8=FIX.4.4|9=10|35=0|34=1|10=165|"

// withSOH writes | as SOH.
func withSOH(s string) string { return strings.ReplaceAll(s, "|", "\x01") }

func field(tag int, value string) api.Field { return api.Field{Tag: tag, Value: value} }

// closed puts the last field behind a text.
func closed(text string) string {
	sum := 0
	for _, c := range []byte(text) {
		sum += int(c)
	}
	return text + fmt.Sprintf("10=%03d\x01", sum%256)
}

// framed makes a frame of a body, whatever that is.
func framed(body string) string {
	return closed(fmt.Sprintf("8=FIX.4.4\x019=%d\x01", len(body)) + body)
}

// bodyAt tells where the body of such a frame begins.
func bodyAt(body string) int { return len(framed(body)) - len(body) - 7 }

func wantFault(t *testing.T, frame string, e api.Errno, at int) {
	t.Helper()
	l, err := Split([]byte(frame))
	f, ok := err.(*api.Fault)
	if l != nil || !ok || f == nil || *f != (api.Fault{At: at, Err: e}) {
		t.Errorf("Split(%.80q) = %v, %v, want fault %d at %d", frame, l, err, e, at)
	}
}

func wantFields(t *testing.T, frame string, want ...api.Field) {
	t.Helper()
	l, err := Split([]byte(frame))
	if err != nil || !slices.Equal(l, want) {
		t.Errorf("Split(%.80q) = %v, %v, want %v", frame, l, err, want)
	}
}

func wantFrame(t *testing.T, want string, l ...api.Field) {
	t.Helper()
	b, e := Join(l)
	if e != api.OK || string(b) != want {
		t.Errorf("Join(%.80v) = %q, %d, want %q", l, b, e, want)
	}
}

func wantRefused(t *testing.T, e api.Errno, l ...api.Field) {
	t.Helper()
	if b, got := Join(l); b != nil || got != e {
		t.Errorf("Join(%.80v) = %.40q, %d, want %d", l, b, got, e)
	}
}

// forms: all that may stand at the beginning and at the end of a frame, and ahead of values, each with all its beginnings.
type forms struct {
	heads, lasts map[string]bool // false: a beginning alone
	tags         map[string]int
}

func allForms() forms {
	f := forms{heads: map[string]bool{}, lasts: map[string]bool{}, tags: map[string]int{}}
	for n := range 10000 {
		addForm(f.heads, "8=FIX.4.4\x019="+strconv.Itoa(n)+"\x01")
		if n < 1000 {
			addForm(f.lasts, fmt.Sprintf("10=%03d\x01", n))
		}
		if n > 0 && !slices.Contains([]int{8, 9, 10}, n) {
			f.tags[strconv.Itoa(n)+"="] = n
		}
	}
	return f
}

func addForm(set map[string]bool, s string) {
	for i := range len(s) {
		set[s[:i]] = false
	}
	set[s] = true
}

// longest tells how many bytes of a text begin one of the forms, and whether they are one.
func longest(set map[string]bool, text string) (int, bool) {
	for n := 0; ; n++ {
		whole, known := set[text[:n]]
		if !known {
			return n - 1, false
		}
		if whole || n == len(text) {
			return n, whole
		}
	}
}

// split is F1 by the words of the chapter.
func (f forms) split(frame string) ([]api.Field, api.Fault) {
	if len(frame) > 1024 {
		return nil, api.Fault{At: 1024, Err: api.ErrLength}
	}
	n, ok := longest(f.heads, frame)
	if !ok {
		return nil, api.Fault{At: n, Err: api.ErrFrame}
	}
	length, _ := strconv.Atoi(frame[12 : n-1])
	if len(frame)-n != length+7 {
		return nil, api.Fault{At: 12, Err: api.ErrLength}
	}
	ahead := n + length
	if k, ok := longest(f.lasts, frame[ahead:]); !ok {
		return nil, api.Fault{At: ahead + k, Err: api.ErrFrame}
	}
	if closed(frame[:ahead]) != frame {
		return nil, api.Fault{At: ahead + 3, Err: api.ErrSum}
	}
	return f.splitBody(frame[n:ahead], n)
}

func (f forms) splitBody(body string, at int) ([]api.Field, api.Fault) {
	var l []api.Field
	for body != "" {
		i := strings.IndexFunc(body, func(r rune) bool { return r < '0' || r > '9' })
		tag := f.tags[body[:i+1]]
		if tag == 0 {
			return nil, api.Fault{At: at, Err: api.ErrTag}
		}
		value := body[i+1:]
		k := strings.IndexFunc(value, func(r rune) bool { return r < ' ' || r > '~' })
		if k < 0 {
			return nil, api.Fault{At: at + len(body), Err: api.ErrValue}
		}
		if k == 0 || value[k] != 1 {
			return nil, api.Fault{At: at + i + 1 + k, Err: api.ErrValue}
		}
		l = append(l, field(tag, value[:k]))
		body, at = value[k+1:], at+i+1+k+1
	}
	return l, api.Fault{}
}

func (f forms) check(t *testing.T, frame string) {
	t.Helper()
	l, fault := f.split(frame)
	if fault == (api.Fault{}) {
		wantFields(t, frame, l...)
	} else {
		wantFault(t, frame, fault.Err, fault.At)
	}
}

// someFields are right ones.
func someFields(r *rand.Rand) []api.Field {
	var l []api.Field
	for range r.Intn(8) {
		tag := 11 + r.Intn(9989)
		if r.Intn(2) == 0 {
			tag = 1 + r.Intn(7)
		}
		value := make([]byte, 1+r.Intn(20))
		for i := range value {
			value[i] = byte(32 + r.Intn(95))
		}
		l = append(l, field(tag, string(value)))
	}
	return l
}

func textOf(l []api.Field) string {
	var s strings.Builder
	for _, f := range l {
		fmt.Fprintf(&s, "%d=%s\x01", f.Tag, f.Value)
	}
	return s.String()
}

func TestF1Examples(t *testing.T) {
	wantFields(t, withSOH(example), field(35, "0"), field(34, "1"))
	wantFault(t, withSOH("8=FIX.4.4|9=010|35=0|34=1|10=165|"), api.ErrFrame, 13)
	wantFault(t, withSOH("8=FIX.4.3|"), api.ErrFrame, 8)
	wantFault(t, withSOH(strings.Replace(example, "9=10", "9=11", 1)), api.ErrLength, 12)
	wantFault(t, withSOH(strings.Replace(example, "10=165", "10=166", 1)), api.ErrSum, 28)
	wantFields(t, framed(""))
}

func TestF1Fields(t *testing.T) {
	wantFields(t, framed(withSOH("1=a=b|9999= ~|1=again|")), field(1, "a=b"), field(9999, " ~"), field(1, "again"))
	wantFields(t, framed(withSOH("7=8=FIX.4.4|11=10=165|")), field(7, "8=FIX.4.4"), field(11, "10=165"))
	wantFields(t, framed(withSOH("58="+strings.Repeat("x", 996)+"|")), field(58, strings.Repeat("x", 996)))
}

func TestF1MoreBytesThanMaxFrame(t *testing.T) {
	long := framed(withSOH("58=" + strings.Repeat("x", 997) + "|"))
	if len(long) != api.MaxFrame+1 {
		t.Fatalf("a frame of %d bytes", len(long))
	}
	wantFault(t, long, api.ErrLength, 1024)
	wantFault(t, strings.Repeat("x", 1025), api.ErrLength, 1024)
	wantFault(t, strings.Repeat("x", 1024), api.ErrFrame, 0)
	wantFault(t, strings.Repeat("8", 1<<20), api.ErrLength, 1024)
}

func TestF1EachByteOfTheHead(t *testing.T) {
	good := withSOH(example)
	for at := range 12 {
		wantFault(t, good[:at], api.ErrFrame, at)
		for c := range 256 {
			if byte(c) != good[at] {
				wantFault(t, good[:at]+string([]byte{byte(c)})+good[at+1:], api.ErrFrame, at)
			}
		}
	}
	wantFault(t, "", api.ErrFrame, 0)
}

func TestF1LengthIsANumeral(t *testing.T) {
	const head = "8=FIX.4.4\x019="
	for digits, at := range map[string]int{
		"": 12, "0": 13, "00": 13, "01": 13, "010": 13, "0000": 13, "1": 13, "12": 14, "123": 15, "1234": 16,
		"12345": 16, "123456": 16, "1x": 13, "12 ": 14, "123=": 15, "1234/": 16, "1234:": 16, "0x": 13,
		"/": 12, ":": 12, "-1": 12, "+1": 12, " 1": 12, "x": 12, "\x00": 12,
	} {
		wantFault(t, head+digits, api.ErrFrame, at)
		if digits == "" || strings.Trim(digits, "0123456789") != "" || len(digits) > 4 {
			wantFault(t, head+digits+"\x01", api.ErrFrame, at)
		}
	}
	wantFault(t, head+"\x0110=", api.ErrFrame, 12)
}

func TestF1LengthFillsTheRest(t *testing.T) {
	for length := range 10000 {
		s := closed(fmt.Sprintf("8=FIX.4.4\x019=%d\x01", length) + withSOH("35=0|34=1|"))
		if length == 10 {
			wantFields(t, s, field(35, "0"), field(34, "1"))
		} else {
			wantFault(t, s, api.ErrLength, 12)
		}
		if length > 0 {
			wantFault(t, closed(fmt.Sprintf("8=FIX.4.4\x019=%d\x01", length)), api.ErrLength, 12)
		}
	}
	good := withSOH(example)
	for cut := 15; cut < len(good); cut++ {
		wantFault(t, good[:cut], api.ErrLength, 12)
	}
	for _, behind := range []string{"x", "\x01", "\x00", good} {
		wantFault(t, good+behind, api.ErrLength, 12)
	}
	for rest := range 7 {
		wantFault(t, "8=FIX.4.4\x019=0\x01"+"10=225\x01"[:rest], api.ErrLength, 12)
	}
}

func TestF1EachByteOfTheLastField(t *testing.T) {
	good := withSOH(example)
	for at := 25; at < 32; at++ {
		for c := range 256 {
			isDigit := at >= 28 && at < 31 && c >= '0' && c <= '9'
			if byte(c) != good[at] && !isDigit {
				wantFault(t, good[:at]+string([]byte{byte(c)})+good[at+1:], api.ErrFrame, at)
			}
		}
	}
	wantFault(t, good[:25]+"1x=x65\x01", api.ErrFrame, 26)
	wantFault(t, good[:25]+"10=x6x\x01", api.ErrFrame, 28)
	wantFault(t, good[:25]+"10=16xx", api.ErrFrame, 30)
}

func TestF1Sum(t *testing.T) {
	ahead := withSOH(example)[:25]
	for sum := range 1000 {
		s := ahead + fmt.Sprintf("10=%03d\x01", sum)
		if sum == 165 {
			wantFields(t, s, field(35, "0"), field(34, "1"))
		} else {
			wantFault(t, s, api.ErrSum, 28)
		}
	}
}

// Each sum there can be, so that those with noughts ahead are met.
func TestF1EachSum(t *testing.T) {
	met := map[string]bool{}
	for a := 32; a < 127; a++ {
		for b := 32; b < 127; b++ {
			value := string([]byte{byte(a), byte(b)})
			s := framed("35=" + value + "\x01")
			met[s[len(s)-4:]] = true
			wantFields(t, s, field(35, value))
			wantFrame(t, s, field(35, value))
		}
	}
	if len(met) < 180 || !met["000\x01"] || !met["009\x01"] || !met["255\x01"] {
		t.Errorf("only %d sums were met", len(met))
	}
}

func TestF1Tags(t *testing.T) {
	for tag := range 20000 {
		body := strconv.Itoa(tag) + "=x\x01"
		if tag < 1 || tag > 9999 || tag >= 8 && tag <= 10 {
			wantFault(t, framed(body), api.ErrTag, bodyAt(body))
		} else {
			wantFields(t, framed(body), field(tag, "x"))
		}
	}
	for _, tag := range []string{"", "0", "00", "01", "035", "0000035", "-1", "+1", " 1", "1 ", "x", "35x", "3 5", "\x00", "35\x00",
		"18446744073709551651", "99999999999999999999", strings.Repeat("9", 900), "٣"} {
		body := tag + "=x\x01"
		wantFault(t, framed(body), api.ErrTag, bodyAt(body))
		second := withSOH("35=0|") + body
		wantFault(t, framed(second), api.ErrTag, bodyAt(second)+5)
	}
}

func TestF1BytesBehindATag(t *testing.T) {
	for c := range 256 {
		body := "35" + string([]byte{byte(c)}) + "x\x01"
		switch {
		case c == '=':
			wantFields(t, framed(body), field(35, "x"))
		default:
			wantFault(t, framed(body), api.ErrTag, bodyAt(body))
		}
	}
}

func TestF1EachByteOfAValue(t *testing.T) {
	for at := range 3 {
		for c := range 256 {
			value := []byte("abc")
			value[at] = byte(c)
			body := "35=" + string(value) + "\x01"
			switch {
			case c >= 32 && c <= 126:
				wantFields(t, framed(body), field(35, string(value)))
			case c == 1 && at > 0:
				// The value ends here, and what follows is no tag.
				wantFault(t, framed(body), api.ErrTag, bodyAt(body)+3+at+1)
			default:
				wantFault(t, framed(body), api.ErrValue, bodyAt(body)+3+at)
			}
		}
	}
	for _, body := range []string{"35=|", "35=||", "35=|34=1|"} {
		wantFault(t, framed(withSOH(body)), api.ErrValue, bodyAt(body)+3)
	}
	wantFault(t, framed(withSOH("35=é|")), api.ErrValue, bodyAt("35=é|")+3)
}

func TestF1BodyEndsWithinAField(t *testing.T) {
	whole := withSOH("35=ab|9999=c|")
	for n := range len(whole) + 1 {
		body := whole[:n]
		s, at := framed(body), bodyAt(body)
		switch {
		case n == 0:
			wantFields(t, s)
		case n < 3:
			wantFault(t, s, api.ErrTag, at)
		case n < 6:
			wantFault(t, s, api.ErrValue, at+n)
		case n == 6:
			wantFields(t, s, field(35, "ab"))
		case n < 11:
			wantFault(t, s, api.ErrTag, at+6)
		case n < 13:
			wantFault(t, s, api.ErrValue, at+n)
		default:
			wantFields(t, s, field(35, "ab"), field(9999, "c"))
		}
	}
	// The last field is none of the body's, though it would go on as a field of it does.
	wantFault(t, framed("2"), api.ErrTag, bodyAt("2"))
	wantFault(t, framed("2="), api.ErrValue, bodyAt("2=")+2)
}

// Faults in the order of the chapter: each frame has all of them from one on.
func TestF1FirstFaultIsTold(t *testing.T) {
	long := strings.Repeat("x", 1024)
	wantFault(t, "9=FIX.4.4\x019=03\x018=x\x01"+long, api.ErrLength, 1024)
	wantFault(t, withSOH("9=FIX.4.4|9=03|8=x|10=xxx|"), api.ErrFrame, 0)
	wantFault(t, withSOH("8=FIX.4.4|9=03|8=x|10=xxx|"), api.ErrFrame, 13)
	wantFault(t, withSOH("8=FIX.4.4|9=3|8=x|10=xxx|"), api.ErrLength, 12)
	wantFault(t, withSOH("8=FIX.4.4|9=4|8=x|10=xxx|"), api.ErrFrame, 21)
	wantFault(t, withSOH("8=FIX.4.4|9=4|8=x|10=999|"), api.ErrSum, 21)
	wantFault(t, framed(withSOH("8=x|")), api.ErrTag, 14)
	// In the body the place counts, not the kind of the fault.
	wantFault(t, framed(withSOH("35=|8=x|")), api.ErrValue, 17)
	wantFault(t, framed(withSOH("8=|35=|")), api.ErrTag, 14)
}

func TestF1ByTheWords(t *testing.T) {
	all := allForms()
	r := rand.New(rand.NewSource(4))
	const signs = "0123456789=\x01 x~\x7f\x1f\x00\xff"
	for range 20000 {
		body := []byte(textOf(someFields(r)))
		for range r.Intn(3) {
			body = spoilt(r, body, signs)
		}
		s := []byte(framed(string(body)))
		for range r.Intn(2) {
			s = spoilt(r, s, signs)
		}
		all.check(t, string(s))
	}
	for range 20000 {
		body := make([]byte, r.Intn(10))
		for i := range body {
			body[i] = signs[r.Intn(len(signs))]
		}
		all.check(t, framed(string(body)))
		all.check(t, "8=FIX.4.4\x019="+string(body))
	}
}

// spoilt turns a byte, puts one in, or takes one out.
func spoilt(r *rand.Rand, b []byte, signs string) []byte {
	c := signs[r.Intn(len(signs))]
	at := r.Intn(len(b) + 1)
	switch {
	case r.Intn(3) == 0 || at == len(b):
		return slices.Insert(slices.Clone(b), at, c)
	case r.Intn(2) == 0:
		return slices.Delete(slices.Clone(b), at, at+1)
	}
	b = slices.Clone(b)
	b[at] = c
	return b
}

func TestF1OneByteTurnedIsRefused(t *testing.T) {
	frames := []string{withSOH(example), framed(""), framed(withSOH("7=10=165|11=9=0|")), framed("58=" + strings.Repeat("x", 996) + "\x01")}
	for _, good := range frames {
		for at := range len(good) {
			for c := range 256 {
				b := []byte(good)
				b[at] = byte(c)
				if l, err := Split(b); string(b) != good && (err == nil || l != nil) {
					t.Errorf("Split(%.80q) = %v, %v", b, l, err)
				}
			}
		}
	}
}

func TestF1IsNewMemory(t *testing.T) {
	frame := append(make([]byte, 0, 100), withSOH(example)...)
	spare := frame[:cap(frame)]
	was := slices.Clone(spare)
	l, err := Split(frame)
	again, _ := Split(frame)
	if err != nil || !bytes.Equal(spare, was) {
		t.Errorf("Split wrote into the frame: %q, %v", spare, err)
	}
	for i := range spare {
		spare[i] = 'x'
	}
	want := []api.Field{field(35, "0"), field(34, "1")}
	if !slices.Equal(l, want) {
		t.Errorf("the fields are the frame's bytes: %v", l)
	}
	l[0] = field(1, "mine")
	_ = append(l[:1], field(2, "mine"))
	if !slices.Equal(again, want) {
		t.Errorf("two answers share memory: %v", again)
	}
	_, one := Split(nil)
	_, two := Split(nil)
	one.(*api.Fault).At = 7
	if two.(*api.Fault).At != 0 {
		t.Errorf("two faults share memory")
	}
}

func TestF2Examples(t *testing.T) {
	wantFrame(t, withSOH(example), field(35, "0"), field(34, "1"))
	wantRefused(t, api.ErrTag, field(8, "x"))
	wantRefused(t, api.ErrValue, field(35, ""))
	wantFrame(t, framed(""))
}

func TestF2Tags(t *testing.T) {
	for tag := -20; tag < 10020; tag++ {
		if tag < 1 || tag > 9999 || tag == 8 || tag == 9 || tag == 10 {
			wantRefused(t, api.ErrTag, field(tag, "x"))
			wantRefused(t, api.ErrTag, field(35, "x"), field(tag, "x"))
		} else {
			wantFrame(t, framed(strconv.Itoa(tag)+"=x\x01"), field(tag, "x"))
		}
	}
	for _, tag := range []int{math.MinInt, math.MaxInt, math.MinInt32, math.MaxInt32, 1<<32 + 35, 1<<16 + 35} {
		wantRefused(t, api.ErrTag, field(tag, "x"))
	}
}

func TestF2Values(t *testing.T) {
	for at := range 3 {
		for c := range 256 {
			value := []byte("abc")
			value[at] = byte(c)
			f := field(35, string(value))
			if c >= 32 && c <= 126 {
				wantFrame(t, framed("35="+f.Value+"\x01"), f)
			} else {
				wantRefused(t, api.ErrValue, f)
				wantRefused(t, api.ErrValue, field(34, "1"), f)
				wantRefused(t, api.ErrValue, f, field(34, "1"))
			}
		}
	}
	wantRefused(t, api.ErrValue, field(35, "é"))
	wantRefused(t, api.ErrValue, field(34, "1"), field(35, ""))
	wantFrame(t, framed(withSOH("35==|1= |1=9=0|")), field(35, "="), field(1, " "), field(1, "9=0"))
}

func TestF2Length(t *testing.T) {
	for n := 1; n < 1100; n++ {
		value := strings.Repeat("x", n)
		if s := framed("58=" + value + "\x01"); n <= 996 {
			wantFrame(t, s, field(58, value))
		} else {
			wantRefused(t, api.ErrLength, field(58, value))
		}
	}
	many := slices.Repeat([]api.Field{field(1, "y")}, 250)
	wantFrame(t, framed(strings.Repeat("1=y\x01", 250)), many...)
	wantRefused(t, api.ErrLength, append(many, field(1, "y"))...)
	long := field(58, strings.Repeat("x", 1<<20))
	wantRefused(t, api.ErrLength, slices.Repeat([]api.Field{long}, 50)...)
	if b, _ := Join(many); len(b) != api.MaxFrame {
		t.Errorf("a frame of %d bytes", len(b))
	}
}

func TestF2FirstErrorIsTold(t *testing.T) {
	long := field(58, strings.Repeat("x", 2000))
	wantRefused(t, api.ErrTag, long, field(35, ""), field(0, "x"))
	wantRefused(t, api.ErrTag, field(10, "\x01"))
	wantRefused(t, api.ErrTag, field(35, ""), field(8, "x"))
	wantRefused(t, api.ErrValue, long, field(35, ""))
	wantRefused(t, api.ErrValue, field(35, "\x01"), long)
	wantRefused(t, api.ErrLength, long, field(35, "x"))
}

func TestF2WhatIsJoinedIsSplit(t *testing.T) {
	r := rand.New(rand.NewSource(44))
	for range 5000 {
		l := someFields(r)
		s := framed(textOf(l))
		wantFrame(t, s, l...)
		wantFields(t, s, l...)
	}
}

func TestF2IsNewMemory(t *testing.T) {
	l := append(make([]api.Field, 0, 4), field(35, "0"), field(34, "1"))
	l[:4][2] = field(7, "spare")
	was := slices.Clone(l[:4])
	b, _ := Join(l)
	again, _ := Join(l)
	if !slices.Equal(l[:4], was) {
		t.Errorf("Join wrote into the list: %v", l[:4])
	}
	for i := range b[:cap(b)] {
		b[:cap(b)][i] = 'x'
	}
	if string(again) != withSOH(example) {
		t.Errorf("two answers share memory: %q", again)
	}
}

func TestF3Find(t *testing.T) {
	l := []api.Field{field(1, "a"), field(268, "2"), field(269, "0"), field(270, "5"), field(269, "1"), field(-5, ""), field(1, "")}
	for tag, want := range map[int][]int{1: {0, 6}, 268: {1}, 269: {2, 4}, 270: {3}, -5: {5}, 7: {}, 0: {}, math.MinInt: {}} {
		if got := Find(l, tag); !slices.Equal(got, want) {
			t.Errorf("Find(%d) = %v, want %v", tag, got, want)
		}
	}
	if got := Find(nil, 1); len(got) != 0 {
		t.Errorf("Find of nothing = %v", got)
	}
	one, two := Find(l, 269), Find(l, 269)
	one[0] = 7
	if two[0] != 2 {
		t.Errorf("two answers share memory")
	}
}

func wantGroups(t *testing.T, l []api.Field, count, first int, parts [][]api.Field, ahead []api.Field) {
	t.Helper()
	was := slices.Clone(l)
	p, a, e := Groups(l, count, first)
	if e != api.OK || !slices.EqualFunc(p, parts, slices.Equal[[]api.Field]) || !slices.Equal(a, ahead) || !slices.Equal(l, was) {
		t.Errorf("Groups(%v, %d, %d) = %v, %v, %d, want %v, %v", l, count, first, p, a, e, parts, ahead)
	}
}

func wantNoGroups(t *testing.T, l []api.Field, count, first int, want api.Errno) {
	t.Helper()
	if p, a, e := Groups(l, count, first); p != nil || a != nil || e != want {
		t.Errorf("Groups(%v, %d, %d) = %v, %v, %d, want %d", l, count, first, p, a, e, want)
	}
}

// counted is the chapter's example, with another value for the field that counts.
func counted(value string) []api.Field {
	return []api.Field{field(1, "a"), field(268, value), field(269, "0"), field(270, "5"), field(269, "1")}
}

func TestF3GroupsExamples(t *testing.T) {
	l := counted("2")
	wantGroups(t, l, 268, 269, [][]api.Field{{field(269, "0"), field(270, "5")}, {field(269, "1")}}, []api.Field{field(1, "a")})
	wantNoGroups(t, counted("3"), 268, 269, api.ErrTag)
	wantNoGroups(t, counted("x"), 268, 269, api.ErrValue)
}

func TestF3GroupsWithoutACount(t *testing.T) {
	l := counted("x")
	wantGroups(t, l, 5, 269, nil, l)
	wantGroups(t, l, 5, 5, nil, l)
	wantGroups(t, nil, 268, 269, nil, nil)
	wantGroups(t, []api.Field{}, 268, 269, nil, nil)
}

func TestF3GroupsCount(t *testing.T) {
	for n := range 103 {
		l := []api.Field{field(1, "a"), field(268, strconv.Itoa(n))}
		var parts [][]api.Field
		for i := range n {
			part := []api.Field{field(269, strconv.Itoa(i)), field(270, "x"), field(268, "7")}
			parts = append(parts, part)
			l = append(l, part...)
		}
		if n > 99 {
			wantNoGroups(t, l, 268, 269, api.ErrValue)
			continue
		}
		wantGroups(t, l, 268, 269, parts, []api.Field{field(1, "a")})
		wantNoGroups(t, append(slices.Clone(l), field(269, "more")), 268, 269, api.ErrTag)
	}
	for _, value := range []string{"", "x", "02", "00", "2 ", " 2", "-2", "+2", "2.0", "100", "99999999999999999999", "2\x01", "-0"} {
		wantNoGroups(t, counted(value), 268, 269, api.ErrValue)
	}
	for _, value := range []string{"0", "1", "3", "99"} {
		wantNoGroups(t, counted(value), 268, 269, api.ErrTag)
	}
}

func TestF3GroupsBegin(t *testing.T) {
	wantGroups(t, []api.Field{field(1, "a"), field(268, "0")}, 268, 269, nil, []api.Field{field(1, "a")})
	wantGroups(t, []api.Field{field(268, "0")}, 268, 269, nil, nil)
	wantNoGroups(t, []api.Field{field(268, "0"), field(1, "a")}, 268, 269, api.ErrTag)
	wantNoGroups(t, []api.Field{field(268, "0"), field(269, "a")}, 268, 269, api.ErrTag)
	wantNoGroups(t, []api.Field{field(268, "1")}, 268, 269, api.ErrTag)
	wantNoGroups(t, []api.Field{field(268, "1"), field(270, "x"), field(269, "0")}, 268, 269, api.ErrTag)
	// Of fields with the tag first, those ahead of the one that counts do not count.
	wantGroups(t, []api.Field{field(269, "a"), field(268, "1"), field(269, "b")}, 268, 269, [][]api.Field{{field(269, "b")}}, []api.Field{field(269, "a")})
	wantGroups(t, []api.Field{field(7, "2"), field(7, "x"), field(7, "")}, 7, 7, [][]api.Field{{field(7, "x")}, {field(7, "")}}, nil)
	wantGroups(t, []api.Field{field(-1, "1"), field(0, "")}, -1, 0, [][]api.Field{{field(0, "")}}, nil)
}

// groups is F3 by the words of the chapter, part by part.
func groups(l []api.Field, count, first int) ([][]api.Field, []api.Field, api.Errno) {
	for i, f := range l {
		if f.Tag != count {
			continue
		}
		n, err := strconv.Atoi(f.Value)
		if err != nil || n < 0 || n > 99 || strconv.Itoa(n) != f.Value {
			return nil, nil, api.ErrValue
		}
		var parts [][]api.Field
		for _, f := range l[i+1:] {
			if f.Tag == first {
				parts = append(parts, nil)
			}
			if len(parts) == 0 {
				return nil, nil, api.ErrTag
			}
			k := len(parts) - 1
			parts[k] = append(parts[k], f)
		}
		if len(parts) != n {
			return nil, nil, api.ErrTag
		}
		return parts, l[:i], api.OK
	}
	return nil, l, api.OK
}

func TestF3GroupsOfAllShortLists(t *testing.T) {
	choices := []api.Field{field(1, "0"), field(1, "1"), field(1, "2"), field(1, "x"), field(2, "1"), field(3, "1")}
	lists := [][]api.Field{nil}
	for i := 0; len(lists[i]) < 5; i++ {
		for _, f := range choices {
			lists = append(lists, append(slices.Clone(lists[i]), f))
		}
	}
	for _, l := range lists {
		for _, tags := range [][2]int{{1, 2}, {1, 1}, {2, 1}, {2, 3}} {
			parts, ahead, e := groups(l, tags[0], tags[1])
			if e == api.OK {
				wantGroups(t, l, tags[0], tags[1], parts, ahead)
			} else {
				wantNoGroups(t, l, tags[0], tags[1], e)
			}
		}
	}
}

func TestF3GroupsAreNewMemory(t *testing.T) {
	for _, count := range []int{268, 5} {
		l := append(make([]api.Field, 0, 9), counted("2")...)
		was := slices.Clone(l[:9])
		parts, ahead, _ := Groups(l, count, 269)
		lists := append(slices.Clone(parts), ahead)
		for i, mine := range lists {
			whole := mine[:cap(mine)]
			for k := range whole {
				whole[k] = field(i, "mine")
			}
		}
		for i, mine := range lists {
			for _, f := range mine[:cap(mine)] {
				if f != field(i, "mine") {
					t.Errorf("two lists of Groups by %d share memory", count)
				}
			}
		}
		if !slices.Equal(l[:9], was) {
			t.Errorf("what came of Groups by %d is the list that was handed in: %v", count, l[:9])
		}
	}
}

func FuzzSplit(f *testing.F) {
	all := allForms()
	for _, s := range []string{"", example, "35=0|34=1|", "35=0|34", "35=", "=|", "8=x|", "8=FIX.4.4|9=010|"} {
		f.Add(withSOH(s))
	}
	f.Fuzz(func(t *testing.T, s string) {
		for _, frame := range []string{s, framed(s)} {
			all.check(t, frame)
			if l, err := Split([]byte(frame)); err == nil {
				wantFrame(t, frame, l...)
			}
		}
	})
}
