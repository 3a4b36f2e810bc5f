package msg

import (
	"outcry/api"
	"outcry/clock"
)

// standing: what there is of a field in a message.
type standing int

const (
	absent standing = iota
	right           // there, and it may be so
	wrong           // there, and it may not be so
)

// row: a field of the chapter's table.
type row struct {
	number    int
	must, may kinds
	orZero    bool // absent is as good as there, where it must be
	look      func(m *api.Msg) standing
}

func (r row) check(m *api.Msg) api.Errno {
	found := r.look(m)
	must, may := r.must.has(m.Kind), r.may.has(m.Kind)
	switch {
	case !must && !may && found != absent:
		return api.ErrExtra
	case found == wrong, must && !r.orZero && found == absent:
		return api.ErrField
	}
	return api.OK
}

// rows gives the fields in the order in which Valid looks at them. (An array, so that nothing is left on the heap.)
func rows() [42]row {
	return [42]row{
		{35, all, none, false, func(m *api.Msg) standing { return number(m.Kind, lastKind) }},
		{49, all, none, false, func(m *api.Msg) standing { return text(m.Sender, IsName) }},
		{56, all, none, false, func(m *api.Msg) standing { return text(m.Target, IsName) }},
		{34, all, none, false, func(m *api.Msg) standing { return number(m.Seq, api.MaxSeq) }},
		{43, none, all, false, func(m *api.Msg) standing { return flag(m.Dup) }},
		{52, all, none, true, func(m *api.Msg) standing { return number(m.Time, api.MaxTime) }},
		{122, none, all, false, func(m *api.Msg) standing { return number(m.OrigTime, api.MaxTime) }},
		{108, logon, none, false, func(m *api.Msg) standing { return number(m.Beat, maxBeat) }},
		{141, none, logon, false, func(m *api.Msg) standing { return flag(m.Reset) }},
		{112, testRequest, heartbeat, false, func(m *api.Msg) standing { return text(m.TestID, isTestID) }},
		{7, resendRequest, none, false, func(m *api.Msg) standing { return number(m.Begin, api.MaxSeq) }},
		{16, resendRequest, none, true, func(m *api.Msg) standing { return number(m.End, api.MaxSeq) }},
		{36, sequenceReset, none, false, func(m *api.Msg) standing { return number(m.Next, api.MaxSeq) }},
		{123, none, sequenceReset, false, func(m *api.Msg) standing { return flag(m.Fill) }},
		{45, reject | refused, none, false, func(m *api.Msg) standing { return number(m.RefSeq, api.MaxSeq) }},
		{372, refused, reject, false, func(m *api.Msg) standing { return number(m.RefKind, lastKind) }},
		{371, none, reject, false, func(m *api.Msg) standing { return number(m.RefTag, maxTag) }},
		{373, reject | refused | cancelReject, execution | massReport, true, func(m *api.Msg) standing { return number(m.Reason, maxReason) }},
		{58, none, sequenceReset | reject | logout | execution | cancelReject | massReport | refused | status, false, func(m *api.Msg) standing { return text(m.Text, IsText) }},
		{11, newOrder | cancelOrder | replaceOrder | massCancel | askStatus | execution | cancelReject | massReport, none, false, func(m *api.Msg) standing { return text(m.ID, IsID) }},
		{41, cancelOrder | replaceOrder | cancelReject, execution, false, func(m *api.Msg) standing { return text(m.OrigID, IsID) }},
		{1, newOrder | execution, massCancel, false, func(m *api.Msg) standing { return text(m.Account, IsName) }},
		{55, newOrder | cancelOrder | replaceOrder | askStatus | execution | status, massCancel | massReport, false, func(m *api.Msg) standing { return text(m.Symbol, IsSymbol) }},
		{54, newOrder | cancelOrder | replaceOrder | askStatus | execution, massCancel, false, func(m *api.Msg) standing { return number(m.Side, api.Sell) }},
		{40, newOrder, execution, false, func(m *api.Msg) standing { return number(m.Type, api.StopLimit) }},
		{59, newOrder, execution, false, func(m *api.Msg) standing { return number(m.Life, api.PostOnly) }},
		{44, none, newOrder | replaceOrder | execution, false, func(m *api.Msg) standing { return number(m.Price, api.MaxPrice) }},
		{99, none, newOrder | replaceOrder | execution, false, func(m *api.Msg) standing { return number(m.Stop, api.MaxPrice) }},
		{38, newOrder | replaceOrder | execution, none, false, func(m *api.Msg) standing { return number(m.Qty, api.MaxQty) }},
		{111, none, newOrder | execution, false, func(m *api.Msg) standing { return number(m.Show, api.MaxQty) }},
		{110, none, newOrder, false, func(m *api.Msg) standing { return number(m.Least, api.MaxQty) }},
		{432, none, newOrder, false, func(m *api.Msg) standing { return date(m.Until) }},
		{37, execution | cancelReject, none, true, func(m *api.Msg) standing { return number(m.OrderID, api.MaxSeq) }},
		{17, execution, none, false, func(m *api.Msg) standing { return number(m.ExecID, api.MaxSeq) }},
		{150, execution, none, false, func(m *api.Msg) standing { return number(m.Exec, lastExec) }},
		{39, execution | cancelReject, none, false, func(m *api.Msg) standing { return number(m.State, lastState) }},
		{31, none, execution, false, func(m *api.Msg) standing { return number(m.LastPrice, api.MaxPrice) }},
		{32, none, execution, false, func(m *api.Msg) standing { return number(m.LastQty, api.MaxQty) }},
		{151, execution, none, true, func(m *api.Msg) standing { return number(m.Left, api.MaxQty) }},
		{14, execution, none, true, func(m *api.Msg) standing { return number(m.Done, api.MaxQty) }},
		{326, status, none, true, func(m *api.Msg) standing { return number(m.Phase, api.Closing) }},
		{533, massReport, none, true, func(m *api.Msg) standing { return number(m.Count, api.MaxSeq) }},
	}
}

// number: where the table begins a range at 0, that 0 is the field's absence, so all ranges begin at 1 here.
func number[N int | int64](n N, most N) standing {
	switch {
	case n == 0:
		return absent
	case n < 0 || n > most:
		return wrong
	}
	return right
}

func text(s string, may func(s string) bool) standing {
	switch {
	case s == "":
		return absent
	case !may(s):
		return wrong
	}
	return right
}

func flag(b bool) standing {
	if b {
		return right
	}
	return absent
}

func date(n int) standing {
	if n == 0 {
		return absent
	}
	if _, e := clock.Start(n); e != api.OK {
		return wrong
	}
	return right
}

func isTestID(s string) bool { return len(s) <= api.MaxID && IsText(s) }

// unfit tells the number of the first field that does not fit with the others; 0: there is none.
func unfit(m *api.Msg) int {
	switch {
	case m.OrigTime != 0 && !m.Dup:
		return 122
	case m.Kind == api.ResendRequest && m.End != 0 && m.End < m.Begin:
		return 16
	case m.Kind == api.NewOrder:
		return unfitInOrder(m)
	case m.Kind == api.Execution:
		return unfitInExecution(m)
	}
	return 0
}

func unfitInOrder(m *api.Msg) int {
	priced := m.Type == api.Limit || m.Type == api.StopLimit
	stopped := m.Type == api.Stop || m.Type == api.StopLimit
	switch {
	case priced != (m.Price != 0):
		return 44
	case stopped != (m.Stop != 0):
		return 99
	case m.Show > m.Qty:
		return 111
	case m.Least > m.Qty:
		return 110
	case (m.Life == api.GTD) != (m.Until != 0):
		return 432
	}
	return 0
}

func unfitInExecution(m *api.Msg) int {
	traded := m.Exec == tradeExec
	switch {
	case traded != (m.LastPrice != 0):
		return 31
	case traded != (m.LastQty != 0):
		return 32
	case m.Left+m.Done > m.Qty:
		return 14
	}
	return 0
}
