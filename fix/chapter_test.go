package fix

import (
	"math/big"
	"math/rand"
	"reflect"
	"regexp"
	"slices"
	"strconv"
	"strings"
	"sync"
	"testing"
	"time"

	"outcry/api"
	"outcry/msg"
)

// A second reading of the chapter, by other means, against which the package is held.

// line: a number, its field, the form of its values and what may stand there: least and most of a number, or a pattern.
type line struct {
	number  int
	field   string
	form    string
	low     int64
	high    int64
	pattern string
}

const (
	namePattern   = `^[A-Z0-9]{1,12}$`
	idPattern     = `^[A-Za-z0-9._-]{1,20}$`
	symbolPattern = `^[A-Z][A-Z0-9]{0,7}$`
	textPattern   = `^[ -{}~]{1,60}$`
	testPattern   = `^[ -{}~]{1,20}$`

	kindWords = "Heartbeat 0 TestRequest 1 ResendRequest 2 Reject 3 SequenceReset 4 Logout 5 Logon A NewOrder D CancelOrder F ReplaceOrder G MassCancel q AskStatus H Execution 8 CancelReject 9 MassReport r Refused j Status f"
)

var chapter = sync.OnceValue(func() []line {
	return []line{
		{35, "Kind", "kind", 1, 17, ""},
		{49, "Sender", "text", 0, 0, namePattern},
		{56, "Target", "text", 0, 0, namePattern},
		{34, "Seq", "number", 1, 999999999, ""},
		{43, "Dup", "flag", 0, 0, ""},
		{52, "Time", "stamp", 0, 253402300799999, ""},
		{122, "OrigTime", "stamp", 1, 253402300799999, ""},
		{108, "Beat", "number", 1, 3600, ""},
		{141, "Reset", "flag", 0, 0, ""},
		{112, "TestID", "text", 0, 0, testPattern},
		{7, "Begin", "number", 1, 999999999, ""},
		{16, "End", "number", 0, 999999999, ""},
		{36, "Next", "number", 1, 999999999, ""},
		{123, "Fill", "flag", 0, 0, ""},
		{45, "RefSeq", "number", 1, 999999999, ""},
		{372, "RefKind", "kind", 1, 17, ""},
		{371, "RefTag", "number", 1, 9999, ""},
		{373, "Reason", "number", 0, 999, ""},
		{58, "Text", "text", 0, 0, textPattern},
		{11, "ID", "text", 0, 0, idPattern},
		{41, "OrigID", "text", 0, 0, idPattern},
		{1, "Account", "text", 0, 0, namePattern},
		{55, "Symbol", "text", 0, 0, symbolPattern},
		{54, "Side", "1=1 2=2", 1, 2, ""},
		{40, "Type", "2=1 1=2 3=3 4=4", 1, 4, ""},
		{59, "Life", "1=0 4=1 6=2 2=3 3=4 5=6", 1, 7, ""},
		{44, "Price", "price", 1, 1000000000, ""},
		{99, "Stop", "price", 1, 1000000000, ""},
		{38, "Qty", "number", 1, 1000000, ""},
		{111, "Show", "number", 1, 1000000, ""},
		{110, "Least", "number", 1, 1000000, ""},
		{432, "Until", "date", 19700101, 99991231, ""},
		{37, "OrderID", "order", 0, 999999999, ""},
		{17, "ExecID", "number", 1, 999999999, ""},
		{150, "Exec", "1=0 2=8 3=F 4=4 5=5 6=L 7=C 8=I", 1, 8, ""},
		{39, "State", "1=0 2=1 3=2 4=4 5=8 6=C", 1, 6, ""},
		{31, "LastPrice", "price", 1, 1000000000, ""},
		{32, "LastQty", "number", 1, 1000000, ""},
		{151, "Left", "number", 0, 1000000, ""},
		{14, "Done", "number", 0, 1000000, ""},
		{326, "Phase", "0=18 1=21 2=22 3=17 4=2 5=26", 0, 5, ""},
		{533, "Count", "number", 0, 999999999, ""},
	}
})

// kindTypes gives the types of the kinds, by their numbers.
var kindTypes = sync.OnceValue(func() []string {
	out := make([]string, 18)
	words := strings.Fields(kindWords)
	for i := 0; i < len(words); i += 2 {
		out[msg.Number(words[i])] = words[i+1]
	}
	return out
})

// typeOf tells the type of a kind.
func typeOf(kind int) string { return kindTypes()[kind] }

// kindOf tells the kind of a type; 0: there is none.
func kindOf(s string) int { return max(0, slices.Index(kindTypes(), s)) }

// chapterTag tells the tag of a number.
func chapterTag(kind, number int) int {
	if tag, ok := map[int]int{api.Refused: 380, api.CancelReject: 102, api.Execution: 103, api.MassReport: 532}[kind]; ok && number == 373 {
		return tag
	}
	return number
}

// tagsOf tells the tags that a kind has.
func tagsOf(kind int) map[int]bool { return allTags()[kind] }

var allTags = sync.OnceValue(func() [18]map[int]bool {
	var all [18]map[int]bool
	for kind := 1; kind <= 17; kind++ {
		all[kind] = readTags(kind)
	}
	return all
})

func readTags(kind int) map[int]bool {
	tags := map[int]bool{}
	for _, l := range chapter() {
		if msg.Has(kind, l.number) > 0 {
			tags[chapterTag(kind, l.number)] = true
		}
	}
	switch kind {
	case api.Logon:
		tags[98] = true
	case api.NewOrder, api.Execution:
		tags[18] = true
	case api.MassCancel, api.MassReport:
		tags[530] = true
	}
	return tags
}

// valueOf writes what stands in a message.
func valueOf(l line, m api.Msg) string {
	v := reflect.ValueOf(m).FieldByName(l.field)
	switch l.form {
	case "text":
		return v.String()
	case "flag":
		return map[bool]string{true: "Y", false: "N"}[v.Bool()]
	case "kind":
		return typeOf(int(v.Int()))
	case "stamp":
		return time.UnixMilli(v.Int()).UTC().Format("20060102-15:04:05.000")
	case "price":
		s := new(big.Rat).SetFrac64(v.Int(), 10000).FloatString(4)
		return strings.TrimSuffix(strings.TrimRight(s, "0"), ".")
	case "order":
		if v.Int() == 0 {
			return "NONE"
		}
	}
	for _, pair := range strings.Fields(l.form) {
		if n, word, ok := strings.Cut(pair, "="); ok && n == strconv.FormatInt(v.Int(), 10) {
			return word
		}
	}
	if l.field == "Life" { // PostOnly
		return "0"
	}
	return strconv.FormatInt(v.Int(), 10)
}

// chapterFields is X1: the fields of a valid message.
func chapterFields(m api.Msg) []api.Field {
	var out []api.Field
	put := func(tag int, value string) { out = append(out, api.Field{Tag: tag, Value: value}) }
	for _, l := range chapter() {
		has := msg.Has(m.Kind, l.number)
		if l.number == 108 && m.Kind == api.Logon {
			put(98, "0")
		}
		if has == 2 || has == 1 && !reflect.ValueOf(m).FieldByName(l.field).IsZero() {
			put(chapterTag(m.Kind, l.number), valueOf(l, m))
		}
		if l.number == 59 && m.Life == api.PostOnly {
			put(18, "6")
		}
	}
	if m.Kind == api.MassCancel || m.Kind == api.MassReport {
		put(530, map[bool]string{true: "7", false: "1"}[m.Symbol == ""])
	}
	return out
}

func matches(pattern, s string) bool { return patterns[pattern].MatchString(s) }

var patterns = func() map[string]*regexp.Regexp {
	out := map[string]*regexp.Regexp{}
	for _, p := range []string{namePattern, idPattern, symbolPattern, textPattern, testPattern, numeralPattern, pricePattern, stampPattern, datePattern} {
		out[p] = regexp.MustCompile(p)
	}
	return out
}()

const (
	numeralPattern = `^(0|[1-9][0-9]*)$`
	pricePattern   = `^(0|[1-9][0-9]*)(\.[0-9]{1,4})?$`
	stampPattern   = `^[0-9]{8}-[0-9]{2}:[0-9]{2}:[0-9]{2}(\.[0-9]{3})?$`
	datePattern    = `^[0-9]{8}$`
)

// numberIn tells the number that a value says by its form; false: it says none.
func numberIn(l line, s string) (int64, bool) {
	switch l.form {
	case "kind":
		return int64(kindOf(s)), true
	case "order":
		if s == "NONE" {
			return 0, true
		}
		n, ok := numberIn(line{form: "number"}, s)
		return n, ok && n != 0
	case "number":
		n, _ := new(big.Int).SetString("0"+s, 10)
		if !matches(numeralPattern, s) || !n.IsInt64() {
			return 0, false
		}
		return n.Int64(), true
	case "price":
		if !matches(pricePattern, s) {
			return 0, false
		}
		p, _ := new(big.Rat).SetString(s)
		p.Mul(p, big.NewRat(10000, 1))
		return p.Num().Int64(), p.IsInt() && p.Num().IsInt64()
	case "stamp":
		at, err := time.Parse("20060102-15:04:05", s) // takes parts of a second, too
		return at.UnixMilli(), err == nil && matches(stampPattern, s)
	case "date":
		_, err := time.Parse("20060102", s)
		n, _ := strconv.ParseInt(s, 10, 64)
		return n, err == nil && matches(datePattern, s)
	}
	for _, pair := range strings.Fields(l.form) {
		if n, word, _ := strings.Cut(pair, "="); word == s {
			k, _ := strconv.ParseInt(n, 10, 64)
			return k, true
		}
	}
	return 0, false
}

// says puts what a value says into a message; false: it is not of its form, or may not stand there.
func says(l line, s string, m *api.Msg) bool {
	v := reflect.ValueOf(m).Elem().FieldByName(l.field)
	switch l.form {
	case "text":
		if !matches(l.pattern, s) {
			return false
		}
		v.SetString(s)
	case "flag":
		if s != "Y" && s != "N" {
			return false
		}
		v.SetBool(s == "Y")
	default:
		n, ok := numberIn(l, s)
		if !ok || n < l.low || n > l.high {
			return false
		}
		v.SetInt(n)
	}
	return true
}

// verdict: what Decode and Why are to say.
type verdict struct {
	fault       api.Fault // without one: Err is OK
	reason, tag int
	m           api.Msg // what can be read
}

func firstWith(l []api.Field, tag int) int {
	for i, f := range l {
		if f.Tag == tag {
			return i
		}
	}
	return -1
}

// chapterSays is X2 and X3, of fields that are a frame's.
func chapterSays(l []api.Field) verdict {
	v := verdict{m: whatIsRead(l)}
	told := func(e api.Errno, reason, at, tag int) verdict {
		v.fault, v.reason, v.tag = api.Fault{At: at, Err: e}, reason, tag
		return v
	}
	if len(l) == 0 || l[0].Tag != 35 {
		return told(api.ErrMissing, 1, 0, 35)
	}
	kind := kindOf(l[0].Value)
	if kind == 0 {
		return told(api.ErrKind, 11, 0, 35)
	}
	for i := 1; i < len(l); i++ {
		tag := l[i].Tag
		anybody := false
		for k := 1; k <= 17 && !anybody; k++ {
			anybody = tagsOf(k)[tag]
		}
		switch {
		case !anybody:
			return told(api.ErrUnknown, 0, i, tag)
		case !tagsOf(kind)[tag]:
			return told(api.ErrForeign, 2, i, tag)
		case firstWith(l, tag) < i:
			return told(api.ErrTwice, 13, i, tag)
		case !mayStand(kind, l[i]):
			return told(api.ErrField, 5, i, tag)
		}
	}
	for _, tag := range mustTags(kind) {
		if firstWith(l, tag) < 0 {
			return told(api.ErrMissing, 1, len(l), tag)
		}
	}
	if at := firstWith(l, 18); at >= 0 {
		if life := firstWith(l, 59); life < 0 || l[life].Value != "0" {
			return told(api.ErrField, 5, at, 18)
		}
	}
	if at := firstWith(l, 530); at >= 0 && (l[at].Value == "1") != (firstWith(l, 55) >= 0) {
		return told(api.ErrField, 5, at, 530)
	}
	if e, number := msg.Valid(v.m); e != api.OK {
		at := firstWith(l, number)
		if at < 0 {
			at = len(l)
		}
		return told(api.ErrField, 5, at, number)
	}
	return v
}

func mayStand(kind int, f api.Field) bool {
	switch f.Tag {
	case 98:
		return f.Value == "0"
	case 18:
		return f.Value == "6"
	case 530:
		return f.Value == "1" || f.Value == "7"
	}
	for _, l := range chapter() {
		if chapterTag(kind, l.number) == f.Tag {
			return says(l, f.Value, &api.Msg{})
		}
	}
	return false
}

// mustTags gives the tags that must be there, in the order of X1.
func mustTags(kind int) []int {
	var out []int
	for _, l := range chapter() {
		if l.number == 108 && kind == api.Logon {
			out = append(out, 98)
		}
		if msg.Has(kind, l.number) == 2 {
			out = append(out, chapterTag(kind, l.number))
		}
	}
	if kind == api.MassCancel || kind == api.MassReport {
		out = append(out, 530)
	}
	return out
}

// whatIsRead is the message of X3.
func whatIsRead(l []api.Field) api.Msg {
	var m api.Msg
	if len(l) > 0 && l[0].Tag == 35 {
		m.Kind = kindOf(l[0].Value)
	}
	kind := m.Kind
	for _, c := range chapter()[1:] {
		if kind == 0 && !strings.Contains(" 49 56 34 43 52 122 ", " "+strconv.Itoa(c.number)+" ") || kind != 0 && msg.Has(kind, c.number) == 0 {
			continue
		}
		if at := firstWith(l, chapterTag(kind, c.number)); at >= 0 {
			says(c, l[at].Value, &m)
		}
	}
	if kind == api.NewOrder || kind == api.Execution {
		if life, at := firstWith(l, 59), firstWith(l, 18); life >= 0 && at >= 0 && l[life].Value == "0" && l[at].Value == "6" {
			m.Life = api.PostOnly
		}
	}
	return m
}

// holdAgainstChapter asks the package of fields what the chapter says of them.
func holdAgainstChapter(t *testing.T, l []api.Field) {
	t.Helper()
	frame := frameOf(t, l)
	want := chapterSays(l)
	if want.fault.Err == api.OK {
		wantMsg(t, frame, want.m)
		b, e := Encode(want.m)
		if e != api.OK {
			t.Errorf("Encode(%+v): %d", want.m, e)
		}
		wantMsg(t, b, want.m)
		return
	}
	wantFault(t, frame, want.fault, want.reason, want.tag)
	if _, _, m := Why(frame); m != want.m {
		t.Errorf("Why(%q) read %+v; want %+v", frame, m, want.m)
	}
}

// anyMsg makes a message that is valid.
func anyMsg(r *rand.Rand) api.Msg {
	for {
		m := api.Msg{Kind: 1 + r.Intn(17)}
		for _, l := range chapter()[1:] {
			if has := msg.Has(m.Kind, l.number); has == 2 || has == 1 && r.Intn(2) == 0 {
				putAny(r, l, &m)
			}
		}
		if e, _ := msg.Valid(m); e == api.OK {
			return m
		}
	}
}

func putAny(r *rand.Rand, l line, m *api.Msg) {
	v := reflect.ValueOf(m).Elem().FieldByName(l.field)
	switch l.form {
	case "flag":
		v.SetBool(true)
	case "text":
		v.SetString(anyText(r, l.pattern))
	case "date":
		v.SetInt([]int64{19700101, 20240229, 20261120, 99991231}[r.Intn(4)])
	default:
		n := l.low + r.Int63n(l.high-l.low+1)
		if r.Intn(3) == 0 {
			n = []int64{l.low, l.low + 1, l.high - 1, l.high}[r.Intn(4)]
		}
		v.SetInt(n)
	}
}

func anyText(r *rand.Rand, pattern string) string {
	most := map[string]int{namePattern: 12, idPattern: 20, symbolPattern: 8, textPattern: 60, testPattern: 20}[pattern]
	for n := 1 + r.Intn(most); ; {
		s := make([]byte, 0, n)
		for len(s) < n {
			if c := string(rune(32 + r.Intn(95))); matches(pattern, "A"+c) {
				s = append(s, c...)
			}
		}
		if matches(pattern, string(s)) {
			return string(s)
		}
	}
}
