package msg

import (
	"math"
	"math/rand"
	"reflect"
	"slices"
	"strconv"
	"strings"
	"testing"

	"outcry/api"
)

const kindNames = "Heartbeat TestRequest ResendRequest Reject SequenceReset Logout Logon NewOrder CancelOrder ReplaceOrder MassCancel AskStatus Execution CancelReject MassReport Refused Status"

// chapterTable is the chapter's, as it is written there.
const chapterTable = `
| 35 | Kind | 1 to 17 | all | |
| 49 | Sender | a name | all | |
| 56 | Target | a name | all | |
| 34 | Seq | 1 to MaxSeq (999999999) | all | |
| 43 | Dup | true | | all |
| 52 | Time | 0 to MaxTime (or 0) | all | |
| 122 | OrigTime | 1 to MaxTime | | all |
| 108 | Beat | 1 to 3600 | Logon | |
| 141 | Reset | true | | Logon |
| 112 | TestID | a text of at most MaxID (20) bytes, not empty | TestRequest | Heartbeat |
| 7 | Begin | 1 to MaxSeq | ResendRequest | |
| 16 | End | 0 to MaxSeq (or 0) | ResendRequest | |
| 36 | Next | 1 to MaxSeq | SequenceReset | |
| 123 | Fill | true | | SequenceReset |
| 45 | RefSeq | 1 to MaxSeq | Reject, Refused | |
| 372 | RefKind | 1 to 17 | Refused | Reject |
| 371 | RefTag | 1 to 9999 | | Reject |
| 373 | Reason | 0 to 999 (or 0) | Reject, Refused, CancelReject | Execution, MassReport |
| 58 | Text | a text | | SequenceReset, Reject, Logout, Execution, CancelReject, MassReport, Refused, Status |
| 11 | ID | an ID | NewOrder, CancelOrder, ReplaceOrder, MassCancel, AskStatus, Execution, CancelReject, MassReport | |
| 41 | OrigID | an ID | CancelOrder, ReplaceOrder, CancelReject | Execution |
| 1 | Account | a name | NewOrder, Execution | MassCancel |
| 55 | Symbol | a symbol | NewOrder, CancelOrder, ReplaceOrder, AskStatus, Execution, Status | MassCancel, MassReport |
| 54 | Side | 1, 2 | NewOrder, CancelOrder, ReplaceOrder, AskStatus, Execution | MassCancel |
| 40 | Type | 1 to 4 | NewOrder | Execution |
| 59 | Life | 1 to 7 | NewOrder | Execution |
| 44 | Price | 1 to MaxPrice (1000000000) | | NewOrder, ReplaceOrder, Execution |
| 99 | Stop | 1 to MaxPrice | | NewOrder, ReplaceOrder, Execution |
| 38 | Qty | 1 to MaxQty (1000000) | NewOrder, ReplaceOrder, Execution | |
| 111 | Show | 1 to MaxQty | | NewOrder, Execution |
| 110 | Least | 1 to MaxQty | | NewOrder |
| 432 | Until | a date (clock.Start takes it) | | NewOrder |
| 37 | OrderID | 0 to MaxSeq (or 0) | Execution, CancelReject | |
| 17 | ExecID | 1 to MaxSeq | Execution | |
| 150 | Exec | 1 to 8 | Execution | |
| 39 | State | 1 to 6 | Execution, CancelReject | |
| 31 | LastPrice | 1 to MaxPrice | | Execution |
| 32 | LastQty | 1 to MaxQty | | Execution |
| 151 | Left | 0 to MaxQty (or 0) | Execution | |
| 14 | Done | 0 to MaxQty (or 0) | Execution | |
| 326 | Phase | 0 to 5 (or 0) | Status | |
| 533 | Count | 0 to MaxSeq (or 0) | MassReport | |
`

// line: what the chapter's table says of a field.
type line struct {
	number    int
	field     string
	what      string
	orZero    bool
	must, may []int
}

func chapterKinds(t *testing.T, list string) []int {
	var out []int
	for _, w := range strings.FieldsFunc(list, func(r rune) bool { return r == ',' || r == ' ' }) {
		if w == "all" {
			for kind := 1; kind <= 17; kind++ {
				out = append(out, kind)
			}
			continue
		}
		at := slices.Index(strings.Fields(kindNames), w)
		if at < 0 {
			t.Fatalf("no kind: %q", w)
		}
		out = append(out, at+1)
	}
	return out
}

func chapterLines(t *testing.T) []line {
	var out []line
	for _, s := range strings.Split(strings.TrimSpace(chapterTable), "\n") {
		parts := strings.Split(strings.Trim(s, "|"), "|")
		if len(parts) < 4 {
			t.Fatalf("no line: %q", s)
		}
		parts = append(parts, "")
		number, err := strconv.Atoi(strings.TrimSpace(parts[0]))
		if err != nil {
			t.Fatal(err)
		}
		what, orZero := strings.CutSuffix(strings.TrimSpace(parts[2]), " (or 0)")
		out = append(out, line{number, strings.TrimSpace(parts[1]), what, orZero, chapterKinds(t, parts[3]), chapterKinds(t, parts[4])})
	}
	return out
}

// letters gives so many of them.
func letters(n int) string { return strings.Repeat("Z", n) }

// samples gives values that may stand in a field, and values that may not; none of them is zero.
func samples(t *testing.T, what string) (good, bad []any) {
	switch what {
	case "true":
		return []any{true}, nil
	case "a name":
		return []any{"A", "0", "Z9", letters(12)}, []any{"a", letters(13), "A B", "A-", "@", "[", "/", ":", "É", "\x00"}
	case "an ID":
		return []any{"a", "Z", "0", ".", "_", "-", letters(20)}, []any{letters(21), "a b", "a|b", "a+", "é", "\x00", "/"}
	case "a symbol":
		return []any{"A", "Z9", letters(8)}, []any{"a", "9", "1X", letters(9), "A.", "Aa", " A", "\x00"}
	case "a text":
		return []any{" ", "~", "a b", letters(60)}, []any{letters(61), "|", "a|b", "\x1f", "\x7f", "\x01", "é", "\x00"}
	case "a text of at most MaxID (20) bytes, not empty":
		return []any{" ", "~", "a b", letters(20)}, []any{letters(21), letters(60), "|", "\x1f", "\x7f", "é", "\x00"}
	case "a date (clock.Start takes it)":
		return []any{19700101, 20240229, 99991231}, []any{-1, 1, 19691231, 20230229, 20261301, 20260400, 100000101, math.MaxInt, math.MinInt}
	case "1, 2":
		what = "1 to 2"
	}
	low, high, ok := strings.Cut(what, " to ")
	if !ok || low != "0" && low != "1" {
		t.Fatalf("what is %q?", what)
	}
	high, _, _ = strings.Cut(high, " (")
	limits := map[string]int{"MaxSeq": 999999999, "MaxTime": 253402300799999, "MaxPrice": 1000000000, "MaxQty": 1000000}
	most, ok := limits[high]
	if !ok {
		var err error
		if most, err = strconv.Atoi(high); err != nil {
			t.Fatal(err)
		}
	}
	return []any{1, 2, most - 1, most}, []any{-1, -2, most + 1, -most, math.MaxInt, math.MinInt}
}

func put(m *api.Msg, field string, value any) {
	f := reflect.ValueOf(m).Elem().FieldByName(field)
	f.Set(reflect.ValueOf(value).Convert(f.Type()))
}

// drop makes a field absent.
func drop(m *api.Msg, field string) {
	reflect.ValueOf(m).Elem().FieldByName(field).SetZero()
}

func isThere(m api.Msg, field string) bool {
	return !reflect.ValueOf(m).FieldByName(field).IsZero()
}

// least gives a message of each kind that has what it must have, and no more.
func least(kind int) api.Msg {
	m := api.Msg{Kind: kind, Sender: "A", Target: "B", Seq: 1}
	switch kind {
	case api.TestRequest:
		m.TestID = "x"
	case api.ResendRequest:
		m.Begin = 1
	case api.Reject:
		m.RefSeq = 1
	case api.SequenceReset:
		m.Next = 1
	case api.Logon:
		m.Beat = 1
	case api.NewOrder:
		m.ID, m.Account, m.Symbol, m.Side, m.Type, m.Life, m.Qty = "o", "ACC", "X", api.Sell, api.Market, api.Day, 1
	case api.CancelOrder:
		m.ID, m.OrigID, m.Symbol, m.Side = "p", "o", "X", api.Buy
	case api.ReplaceOrder:
		m.ID, m.OrigID, m.Symbol, m.Side, m.Qty = "p", "o", "X", api.Buy, 1
	case api.MassCancel, api.MassReport:
		m.ID = "p"
	case api.AskStatus:
		m.ID, m.Symbol, m.Side = "o", "X", api.Buy
	case api.Execution:
		m.ID, m.Account, m.Symbol, m.Side, m.Qty, m.ExecID, m.Exec, m.State = "o", "ACC", "X", api.Buy, 1, 1, 1, 1
	case api.CancelReject:
		m.ID, m.OrigID, m.State = "p", "o", 1
	case api.Refused:
		m.RefSeq, m.RefKind = 1, 8
	case api.Status:
		m.Symbol = "X"
	}
	return m
}

// most gives a message of each kind that has all that goes together, all that is bounded at its bound.
func most(kind int) api.Msg {
	m := api.Msg{Kind: kind, Sender: letters(12), Target: letters(12), Seq: api.MaxSeq, Dup: true, Time: api.MaxTime, OrigTime: api.MaxTime}
	switch kind {
	case api.Heartbeat, api.TestRequest:
		m.TestID = letters(20)
	case api.ResendRequest:
		m.Begin, m.End = api.MaxSeq, api.MaxSeq
	case api.Reject:
		m.RefSeq, m.RefKind, m.RefTag, m.Reason, m.Text = api.MaxSeq, 17, 9999, 999, letters(60)
	case api.SequenceReset:
		m.Next, m.Fill, m.Text = api.MaxSeq, true, letters(60)
	case api.Logout:
		m.Text = letters(60)
	case api.Logon:
		m.Beat, m.Reset = 3600, true
	case api.NewOrder:
		m.ID, m.Account, m.Symbol, m.Side, m.Type, m.Life = letters(20), letters(12), letters(8), api.Sell, api.StopLimit, api.GTD
		m.Price, m.Stop, m.Qty, m.Show, m.Least, m.Until = api.MaxPrice, api.MaxPrice, api.MaxQty, api.MaxQty, api.MaxQty, 99991231
	case api.CancelOrder:
		m.ID, m.OrigID, m.Symbol, m.Side = letters(20), letters(20), letters(8), api.Sell
	case api.ReplaceOrder:
		m.ID, m.OrigID, m.Symbol, m.Side = letters(20), letters(20), letters(8), api.Sell
		m.Price, m.Stop, m.Qty = api.MaxPrice, api.MaxPrice, api.MaxQty
	case api.MassCancel:
		m.ID, m.Account, m.Symbol, m.Side = letters(20), letters(12), letters(8), api.Sell
	case api.AskStatus:
		m.ID, m.Symbol, m.Side = letters(20), letters(8), api.Sell
	case api.Execution:
		m.Reason, m.Text, m.ID, m.OrigID, m.Account, m.Symbol = 999, letters(60), letters(20), letters(20), letters(12), letters(8)
		m.Side, m.Type, m.Life, m.Price, m.Stop, m.Qty, m.Show = api.Sell, 4, 7, api.MaxPrice, api.MaxPrice, api.MaxQty, api.MaxQty
		m.OrderID, m.ExecID, m.Exec, m.State = api.MaxSeq, api.MaxSeq, 3, 6
		m.LastPrice, m.LastQty, m.Left, m.Done = api.MaxPrice, api.MaxQty, api.MaxQty-1, 1
	case api.CancelReject:
		m.Reason, m.Text, m.ID, m.OrigID, m.OrderID, m.State = 999, letters(60), letters(20), letters(20), api.MaxSeq, 6
	case api.MassReport:
		m.Reason, m.Text, m.ID, m.Symbol, m.Count = 999, letters(60), letters(20), letters(8), api.MaxSeq
	case api.Refused:
		m.RefSeq, m.RefKind, m.Reason, m.Text = api.MaxSeq, 17, 999, letters(60)
	case api.Status:
		m.Symbol, m.Text, m.Phase = letters(8), letters(60), 5
	}
	return m
}

func wantValid(t *testing.T, m api.Msg, e api.Errno, number int) {
	t.Helper()
	if gotE, got := Valid(m); gotE != e || got != number {
		t.Errorf("Valid(%+v) = %d, %d; want %d, %d", m, gotE, got, e, number)
	}
}

// brokenRule tells by the chapter's words which rule of what must fit together a message breaks first, if all its fields are as the table says.
func brokenRule(m api.Msg) int {
	type rule struct {
		number int
		broken bool
	}
	rules := []rule{{122, m.OrigTime != 0 && !m.Dup}}
	switch m.Kind {
	case api.ResendRequest:
		rules = append(rules, rule{16, m.End != 0 && m.End < m.Begin})
	case api.NewOrder:
		rules = append(rules,
			rule{44, (m.Type == 1 || m.Type == 4) && m.Price == 0},
			rule{44, (m.Type == 2 || m.Type == 3) && m.Price != 0},
			rule{99, (m.Type == 3 || m.Type == 4) && m.Stop == 0},
			rule{99, (m.Type == 1 || m.Type == 2) && m.Stop != 0},
			rule{111, m.Show > m.Qty},
			rule{110, m.Least > m.Qty},
			rule{432, m.Life == 5 && m.Until == 0},
			rule{432, m.Life != 5 && m.Until != 0})
	case api.Execution:
		rules = append(rules,
			rule{31, m.Exec == 3 && m.LastPrice == 0},
			rule{31, m.Exec != 3 && m.LastPrice != 0},
			rule{32, m.Exec == 3 && m.LastQty == 0},
			rule{32, m.Exec != 3 && m.LastQty != 0},
			rule{14, m.Left+m.Done > m.Qty})
	}
	for _, r := range rules {
		if r.broken {
			return r.number
		}
	}
	return 0
}

func wantRule(t *testing.T, m api.Msg) {
	t.Helper()
	if number := brokenRule(m); number != 0 {
		wantValid(t, m, api.ErrField, number)
	} else {
		wantValid(t, m, api.OK, 0)
	}
}

func TestM1ValidMessages(t *testing.T) {
	for kind := 1; kind <= 17; kind++ {
		wantValid(t, least(kind), api.OK, 0)
		wantValid(t, most(kind), api.OK, 0)
	}
}

func TestM1EachFieldOfEachKind(t *testing.T) {
	for _, l := range chapterLines(t)[1:] {
		good, bad := samples(t, l.what)
		for kind := 1; kind <= 17; kind++ {
			for _, base := range []api.Msg{least(kind), most(kind)} {
				must, may := slices.Contains(l.must, kind), slices.Contains(l.may, kind)
				m := base
				drop(&m, l.field)
				if must && !l.orZero {
					wantValid(t, m, api.ErrField, l.number)
				} else {
					wantRule(t, m)
				}
				for _, v := range good {
					put(&m, l.field, v)
					if must || may {
						wantRule(t, m)
					} else {
						wantValid(t, m, api.ErrExtra, l.number)
					}
				}
				for _, v := range bad {
					put(&m, l.field, v)
					if must || may {
						wantValid(t, m, api.ErrField, l.number)
					} else {
						wantValid(t, m, api.ErrExtra, l.number)
					}
				}
			}
		}
	}
}

func TestM1KindGoesFirst(t *testing.T) {
	wantValid(t, api.Msg{}, api.ErrKind, 35)
	for _, kind := range []int{0, -1, -17, 18, 31, 32, 33, 63, 64, 65, 72, 1 << 32, 1<<32 + 1, math.MaxInt, math.MinInt} {
		for k := 1; k <= 17; k++ {
			m := most(k)
			m.Kind = kind
			wantValid(t, m, api.ErrKind, 35)
		}
		wantValid(t, api.Msg{Kind: kind}, api.ErrKind, 35)
	}
}

// spoil makes a field wrong, in one of the ways that there are, and gives the error that tells it; ErrNone: it cannot be wrong.
func spoil(t *testing.T, m *api.Msg, l line, way int) api.Errno {
	good, bad := samples(t, l.what)
	must, may := slices.Contains(l.must, m.Kind), slices.Contains(l.may, m.Kind)
	switch {
	case !must && !may:
		list := append(good, bad...)
		put(m, l.field, list[way%len(list)])
		return api.ErrExtra
	case must && !l.orZero && way%2 == 0:
		drop(m, l.field)
		return api.ErrField
	case len(bad) > 0:
		put(m, l.field, bad[way%len(bad)])
		return api.ErrField
	}
	return api.ErrNone
}

func TestM1FirstInTheTableIsTold(t *testing.T) {
	lines := chapterLines(t)[1:]
	for kind := 1; kind <= 17; kind++ {
		for i, l := range lines {
			for j := i; j < len(lines); j++ {
				m := most(kind)
				want := spoil(t, &m, l, i+j)
				if want == api.ErrNone {
					continue
				}
				if j > i {
					spoil(t, &m, lines[j], j)
				}
				wantValid(t, m, want, l.number)
			}
		}
	}
}

func TestM1TableGoesAheadOfRules(t *testing.T) {
	m := least(api.NewOrder)
	m.Price = 5
	wantValid(t, m, api.ErrField, 44)
	m.Side = 3
	wantValid(t, m, api.ErrField, 54)
	m.Side, m.Count = api.Buy, 1
	wantValid(t, m, api.ErrExtra, 533)
	m = least(api.Execution)
	m.Exec, m.Count = 3, -1
	wantValid(t, m, api.ErrExtra, 533)
	m = least(api.ResendRequest)
	m.Begin, m.End, m.OrigTime, m.Phase = 5, 4, 1, 1
	wantValid(t, m, api.ErrExtra, 326)
	m.Phase = 0
	wantValid(t, m, api.ErrField, 122)
	m.Dup = true
	wantValid(t, m, api.ErrField, 16)
}

func TestM1OrigTimeNeedsDup(t *testing.T) {
	for kind := 1; kind <= 17; kind++ {
		m := least(kind)
		m.OrigTime = 5
		wantValid(t, m, api.ErrField, 122)
		m.Dup = true
		wantValid(t, m, api.OK, 0)
		m.OrigTime = 0
		wantValid(t, m, api.OK, 0)
	}
	m := least(api.NewOrder)
	m.OrigTime, m.Price = 5, 5
	wantValid(t, m, api.ErrField, 122)
}

func TestM1ResendRequestEnds(t *testing.T) {
	for _, c := range []struct{ begin, end, number int }{
		{5, 0, 0}, {5, 5, 0}, {5, 6, 0}, {5, 4, 16}, {5, 1, 16}, {1, 1, 0}, {5, -1, 16},
		{api.MaxSeq, api.MaxSeq, 0}, {api.MaxSeq, api.MaxSeq - 1, 16}, {api.MaxSeq, 0, 0},
	} {
		m := least(api.ResendRequest)
		m.Begin, m.End = c.begin, c.end
		e := api.OK
		if c.number != 0 {
			e = api.ErrField
		}
		wantValid(t, m, e, c.number)
	}
}

func TestM1OrdersFit(t *testing.T) {
	for kind := 1; kind <= 4; kind++ {
		for life := 1; life <= 7; life++ {
			for bits := range 1 << 8 {
				m := least(api.NewOrder)
				m.Type, m.Life, m.Qty = kind, life, 10
				if bits&1 != 0 {
					m.Price = 5
				}
				if bits&2 != 0 {
					m.Stop = 5
				}
				if bits&4 != 0 {
					m.Until = 20261114
				}
				m.Show = []int64{0, 1, 10, 11}[bits>>3&3]
				m.Least = []int64{0, 1, 10, 11}[bits>>5&3]
				m.Dup = true
				if bits&128 != 0 {
					m.OrigTime, m.Dup = 1, bits&1 != 0
				}
				wantRule(t, m)
			}
		}
	}
}

func TestM1ExecutionsFit(t *testing.T) {
	for exec := 1; exec <= 8; exec++ {
		for bits := range 1 << 4 {
			for _, c := range [][2]int64{{0, 0}, {10, 0}, {0, 10}, {9, 1}, {4, 6}, {11, 0}, {0, 11}, {10, 1}, {6, 5}, {api.MaxQty, api.MaxQty}} {
				m := least(api.Execution)
				m.Exec, m.Qty, m.Left, m.Done = exec, 10, c[0], c[1]
				if bits&1 != 0 {
					m.LastPrice = 5
				}
				if bits&2 != 0 {
					m.LastQty = 50 // nothing is asked of it beside its table's range
				}
				if bits&4 != 0 {
					m.OrigTime, m.Dup = 1, bits&8 != 0
				}
				wantRule(t, m)
			}
		}
	}
}

// What must fit together is asked of its kind alone.
func TestM1RulesAreOfTheirKind(t *testing.T) {
	m := least(api.Execution)
	m.Type, m.Life, m.Price, m.Stop, m.Show = api.Market, api.GTD, 5, 5, 11
	wantValid(t, m, api.OK, 0)
	m = least(api.ReplaceOrder)
	m.Stop = 5
	wantValid(t, m, api.OK, 0)
	m.Price = 5
	wantValid(t, m, api.OK, 0)
}

func TestM1Examples(t *testing.T) {
	test := api.Msg{Kind: api.TestRequest, Sender: "A", Target: "B", Seq: 1, TestID: "x"}
	wantValid(t, test, api.OK, 0)
	m := test
	m.TestID = ""
	wantValid(t, m, api.ErrField, 112)
	m = test
	m.Qty = 1
	wantValid(t, m, api.ErrExtra, 38)
	m = test
	m.Seq = 0
	wantValid(t, m, api.ErrField, 34)
	m = test
	m.OrigTime = 5
	wantValid(t, m, api.ErrField, 122)
	m.Dup = true
	wantValid(t, m, api.OK, 0)
	wantValid(t, api.Msg{Kind: 0, Sender: ""}, api.ErrKind, 35)
}

func TestM1Has(t *testing.T) {
	want := map[[2]int]int{}
	for _, l := range chapterLines(t) {
		for _, kind := range l.must {
			want[[2]int{kind, l.number}] = 2
		}
		for _, kind := range l.may {
			want[[2]int{kind, l.number}] = 1
		}
	}
	for kind := -2; kind <= 66; kind++ {
		for field := -1; field <= 1200; field++ {
			if got := Has(kind, field); got != want[[2]int{kind, field}] {
				t.Errorf("Has(%d, %d) = %d, want %d", kind, field, got, want[[2]int{kind, field}])
			}
		}
	}
	for _, far := range []int{math.MinInt, math.MinInt + 35, -1 << 32, 1 << 32, 1<<32 + 1, 1<<32 + 35, math.MaxInt} {
		if Has(far, 35) != 0 || Has(1, far) != 0 || Has(far, far) != 0 {
			t.Errorf("Has at %d", far)
		}
	}
}

func TestM1HasAndValidAgree(t *testing.T) {
	for _, l := range chapterLines(t) {
		for kind := 1; kind <= 17; kind++ {
			for _, m := range []api.Msg{least(kind), most(kind)} {
				has := Has(kind, l.number)
				if isThere(m, l.field) && has == 0 {
					t.Errorf("Has(%d, %d) = 0, and it is there", kind, l.number)
				}
				if !isThere(m, l.field) && has == 2 && !l.orZero {
					t.Errorf("Has(%d, %d) = 2, and it is absent", kind, l.number)
				}
			}
		}
	}
}

func TestM1WhatMayBeCanBeAbsent(t *testing.T) {
	ruled := []int{43, 122, 16, 44, 99, 432, 31, 32}
	for _, l := range chapterLines(t) {
		for _, kind := range l.may {
			m := most(kind)
			drop(&m, l.field)
			if !slices.Contains(ruled, l.number) || kind == api.ReplaceOrder && l.number != 43 {
				wantValid(t, m, api.OK, 0)
			}
		}
	}
}

func TestM1AnyHeadSuits(t *testing.T) {
	r := rand.New(rand.NewSource(3))
	for range 2000 {
		m := most(r.Intn(17) + 1)
		m.Sender, m.Target = letters(1+r.Intn(12)), "0"+letters(r.Intn(12))
		m.Seq, m.Time = 1+r.Intn(api.MaxSeq), r.Int63n(api.MaxTime+1)
		wantValid(t, m, api.OK, 0)
	}
}

func TestM2Business(t *testing.T) {
	for kind := -1; kind <= 18; kind++ {
		m := most(kind)
		before := m
		want := m
		for _, field := range []string{"Sender", "Target", "Seq", "Dup", "Time", "OrigTime"} {
			drop(&want, field)
		}
		if got := Business(m); got != want {
			t.Errorf("Business(%+v) = %+v", m, got)
		}
		if m != before {
			t.Errorf("Business wrote into %+v", m)
		}
	}
}

// Fields are let be, whatever stands in them, and whether or not the kind has them.
func TestM2BusinessOfAnything(t *testing.T) {
	var m api.Msg
	v := reflect.ValueOf(&m).Elem()
	for i := range v.NumField() {
		switch f := v.Field(i); f.Kind() {
		case reflect.Bool:
			f.SetBool(true)
		case reflect.String:
			f.SetString("|" + v.Type().Field(i).Name)
		default:
			f.SetInt(int64(-i - 1))
		}
	}
	b := reflect.ValueOf(Business(m))
	for i := range v.NumField() {
		name := v.Type().Field(i).Name
		gone := slices.Contains([]string{"Sender", "Target", "Seq", "Dup", "Time", "OrigTime"}, name)
		if b.Field(i).IsZero() != gone || !gone && b.Field(i).Interface() != v.Field(i).Interface() {
			t.Errorf("Business: %s is %v", name, b.Field(i))
		}
	}
	if Business(api.Msg{}) != (api.Msg{}) {
		t.Error("Business of nothing")
	}
}

func TestM2Admin(t *testing.T) {
	for kind := -20; kind <= 80; kind++ {
		if got := Admin(kind); got != (kind >= 1 && kind <= 7) {
			t.Errorf("Admin(%d) = %v", kind, got)
		}
	}
	if Admin(math.MaxInt) || Admin(math.MinInt) || Admin(1<<32+1) {
		t.Error("Admin at great numbers")
	}
}

func TestM2NameAndNumber(t *testing.T) {
	for i, w := range strings.Fields(kindNames) {
		if got := Name(i + 1); got != w {
			t.Errorf("Name(%d) = %q, want %q", i+1, got, w)
		}
		if got := Number(w); got != i+1 {
			t.Errorf("Number(%q) = %d, want %d", w, got, i+1)
		}
		for _, s := range []string{strings.ToLower(w), strings.ToUpper(w), w + " ", " " + w, w[1:], w[:len(w)-1], w + w, w + "\x00"} {
			if got := Number(s); got != 0 {
				t.Errorf("Number(%q) = %d", s, got)
			}
		}
	}
	for _, kind := range []int{0, -1, 18, 19, 1 << 32, 1<<32 + 1, math.MaxInt, math.MinInt} {
		if got := Name(kind); got != "" {
			t.Errorf("Name(%d) = %q", kind, got)
		}
	}
	for _, s := range []string{"", "8", "D", "\xff"} {
		if got := Number(s); got != 0 {
			t.Errorf("Number(%q) = %d", s, got)
		}
	}
}

const (
	capitals = "ABCDEFGHIJKLMNOPQRSTUVWXYZ"
	digits   = "0123456789"
)

// kindsOfTexts: which bytes each kind of text is made of, how many, and which may be the first.
func kindsOfTexts() []struct {
	name        string
	is          func(s string) bool
	few, many   int
	first, rest string
} {
	var printable []byte
	for c := byte(32); c <= 126; c++ {
		if c != '|' {
			printable = append(printable, c)
		}
	}
	id := capitals + strings.ToLower(capitals) + digits + "._-"
	return []struct {
		name        string
		is          func(s string) bool
		few, many   int
		first, rest string
	}{
		{"IsName", IsName, 1, 12, capitals + digits, capitals + digits},
		{"IsID", IsID, 1, 20, id, id},
		{"IsSymbol", IsSymbol, 1, 8, capitals, capitals + digits},
		{"IsText", IsText, 0, 60, string(printable), string(printable)},
	}
}

func TestM3Lengths(t *testing.T) {
	for _, c := range kindsOfTexts() {
		for n := range 130 {
			if got := c.is(letters(n)); got != (n >= c.few && n <= c.many) {
				t.Errorf("%s of %d letters: %v", c.name, n, got)
			}
		}
		if c.is(letters(1 << 20)) {
			t.Errorf("%s of very many letters", c.name)
		}
	}
}

func TestM3EachByteAtEachPlace(t *testing.T) {
	for _, c := range kindsOfTexts() {
		for n := 1; n <= c.many; n++ {
			for at := range n {
				for b := range 256 {
					s := []byte(letters(n))
					s[at] = byte(b)
					may := c.rest
					if at == 0 {
						may = c.first
					}
					if got := c.is(string(s)); got != (strings.IndexByte(may, byte(b)) >= 0) {
						t.Errorf("%s(%q) = %v", c.name, s, got)
					}
				}
			}
		}
	}
}

func TestM3Runes(t *testing.T) {
	for _, s := range []string{"É", "Ａ", "ABCÉ", "a\u0301", "\u00a0", "\xc3", "\ufeff", "Ａ１"} {
		for _, c := range kindsOfTexts() {
			if c.is(s) {
				t.Errorf("%s(%q)", c.name, s)
			}
		}
	}
}

// FuzzValid gives fields any value, to hold what Valid answers against Has and the rules at messages nobody thought of.
func FuzzValid(f *testing.F) {
	f.Add(8, 1, 30, int64(5), "A", true)
	f.Add(13, 40, 17, int64(-1), "|", false)
	f.Fuzz(func(t *testing.T, kind, one, other int, n int64, s string, b bool) {
		m := least(kind)
		v := reflect.ValueOf(&m).Elem()
		for _, i := range []int{one, other} {
			switch field := v.Field(int(uint(i) % uint(v.NumField()))); field.Kind() {
			case reflect.Bool:
				field.SetBool(b)
			case reflect.String:
				field.SetString(s)
			default:
				field.SetInt(n)
			}
		}
		e, number := Valid(m)
		if (e == api.OK) != (number == 0) {
			t.Errorf("Valid(%+v) = %d, %d", m, e, number)
		}
		if e == api.ErrExtra && Has(m.Kind, number) != 0 || e == api.ErrField && Has(m.Kind, number) == 0 {
			t.Errorf("Valid(%+v) = %d, %d; Has is %d", m, e, number, Has(m.Kind, number))
		}
		if e == api.OK && brokenRule(m) != 0 {
			t.Errorf("Valid(%+v): %d does not fit", m, brokenRule(m))
		}
	})
}
