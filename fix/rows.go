package fix

import (
	"slices"

	"outcry/api"
	"outcry/msg"
)

const (
	noKind    = 0
	firstKind = api.Heartbeat
	lastKind  = api.Status

	tagKind   = 35
	tagReason = 373 // a Reject's; other kinds have other tags for it

	// The tags that stand for no number of a message.
	tagEncryption  = 98
	tagInstruction = 18
	tagScope       = 530

	maxBeat   = 3600
	maxTag    = 9999
	maxReason = 999
)

// What msg.Has answers.
const (
	hasNot = 0
	may    = 1
	must   = 2
)

// row: a field by its number, or one of the three tags that stand for none.
type row struct {
	number int
	form   func(m *api.Msg) form
}

// slot: a field that a kind has, by its tag.
type slot struct {
	tag  int
	must bool
	form func(m *api.Msg) form
}

// layout gives the fields of a kind in the order in which they are written; without a kind those that can be read all the same.
func layout(kind int) []slot {
	var slots []slot
	for _, r := range rows() {
		if h := has(kind, r.number); h != hasNot {
			slots = append(slots, slot{tag: tagOf(kind, r.number), must: h == must, form: r.form})
		}
	}
	return slots
}

// has is msg.Has with the three tags that stand for no number, and with what can be read without a kind.
func has(kind int, number int) int {
	switch {
	case kind == noKind:
		return hasIf(isHead(number), may)
	case number == tagEncryption:
		return hasIf(kind == api.Logon, must)
	case number == tagInstruction:
		return hasIf(kind == api.NewOrder || kind == api.Execution, may)
	case number == tagScope:
		return hasIf(kind == api.MassCancel || kind == api.MassReport, must)
	}
	return msg.Has(kind, number)
}

func hasIf(yes bool, how int) int {
	if yes {
		return how
	}
	return hasNot
}

func isHead(number int) bool {
	switch number {
	case 49, 56, 34, 43, 52, 122:
		return true
	}
	return false
}

// tagOf tells the tag of a number, if the kind has it.
func tagOf(kind int, number int) int {
	if number != tagReason {
		return number
	}
	switch kind {
	case api.Refused:
		return 380
	case api.CancelReject:
		return 102
	case api.Execution:
		return 103
	case api.MassReport:
		return 532
	}
	return tagReason
}

// isKnown tells whether some kind has a tag. (Each number is the tag that at least one kind has for it.)
func isKnown(tag int) bool {
	for _, r := range rows() {
		if r.number == tag {
			return true
		}
	}
	for kind := firstKind; kind <= lastKind; kind++ {
		if tagOf(kind, tagReason) == tag {
			return true
		}
	}
	return false
}

// rows gives all fields in the order in which they are written, which is also that in which they must be read: 18 changes what 59 says.
func rows() [45]row {
	return [45]row{
		{tagKind, func(m *api.Msg) form { return code{&m.Kind, 1, types()} }},
		{49, func(m *api.Msg) form { return text{&m.Sender, msg.IsName} }},
		{56, func(m *api.Msg) form { return text{&m.Target, msg.IsName} }},
		{34, func(m *api.Msg) form { return numeral[int]{&m.Seq, 1, api.MaxSeq} }},
		{43, func(m *api.Msg) form { return flag{&m.Dup} }},
		{52, func(m *api.Msg) form { return stamp{&m.Time, 0} }},
		{122, func(m *api.Msg) form { return stamp{&m.OrigTime, 1} }},
		{tagEncryption, func(m *api.Msg) form { return encryption{} }},
		{108, func(m *api.Msg) form { return numeral[int]{&m.Beat, 1, maxBeat} }},
		{141, func(m *api.Msg) form { return flag{&m.Reset} }},
		{112, func(m *api.Msg) form { return text{&m.TestID, isTestID} }},
		{7, func(m *api.Msg) form { return numeral[int]{&m.Begin, 1, api.MaxSeq} }},
		{16, func(m *api.Msg) form { return numeral[int]{&m.End, 0, api.MaxSeq} }},
		{36, func(m *api.Msg) form { return numeral[int]{&m.Next, 1, api.MaxSeq} }},
		{123, func(m *api.Msg) form { return flag{&m.Fill} }},
		{45, func(m *api.Msg) form { return numeral[int]{&m.RefSeq, 1, api.MaxSeq} }},
		{372, func(m *api.Msg) form { return code{&m.RefKind, 1, types()} }},
		{371, func(m *api.Msg) form { return numeral[int]{&m.RefTag, 1, maxTag} }},
		{tagReason, func(m *api.Msg) form { return numeral[int]{&m.Reason, 0, maxReason} }},
		{58, func(m *api.Msg) form { return text{&m.Text, msg.IsText} }},
		{11, func(m *api.Msg) form { return text{&m.ID, msg.IsID} }},
		{41, func(m *api.Msg) form { return text{&m.OrigID, msg.IsID} }},
		{1, func(m *api.Msg) form { return text{&m.Account, msg.IsName} }},
		{55, func(m *api.Msg) form { return text{&m.Symbol, msg.IsSymbol} }},
		{54, func(m *api.Msg) form { return code{&m.Side, 1, []string{"1", "2"}} }},
		{40, func(m *api.Msg) form { return code{&m.Type, 1, []string{"2", "1", "3", "4"}} }},
		{59, func(m *api.Msg) form { return code{&m.Life, 1, []string{"0", "3", "4", "1", "6", "2", "0"}} }},
		{tagInstruction, func(m *api.Msg) form { return instruction{&m.Life} }},
		{44, func(m *api.Msg) form { return price{&m.Price} }},
		{99, func(m *api.Msg) form { return price{&m.Stop} }},
		{38, func(m *api.Msg) form { return numeral[int64]{&m.Qty, 1, api.MaxQty} }},
		{111, func(m *api.Msg) form { return numeral[int64]{&m.Show, 1, api.MaxQty} }},
		{110, func(m *api.Msg) form { return numeral[int64]{&m.Least, 1, api.MaxQty} }},
		{432, func(m *api.Msg) form { return date{&m.Until} }},
		{37, func(m *api.Msg) form { return orderNumber{&m.OrderID} }},
		{17, func(m *api.Msg) form { return numeral[int]{&m.ExecID, 1, api.MaxSeq} }},
		{150, func(m *api.Msg) form { return code{&m.Exec, 1, []string{"0", "8", "F", "4", "5", "L", "C", "I"}} }},
		{39, func(m *api.Msg) form { return code{&m.State, 1, []string{"0", "1", "2", "4", "8", "C"}} }},
		{31, func(m *api.Msg) form { return price{&m.LastPrice} }},
		{32, func(m *api.Msg) form { return numeral[int64]{&m.LastQty, 1, api.MaxQty} }},
		{151, func(m *api.Msg) form { return numeral[int64]{&m.Left, 0, api.MaxQty} }},
		{14, func(m *api.Msg) form { return numeral[int64]{&m.Done, 0, api.MaxQty} }},
		{326, func(m *api.Msg) form { return code{&m.Phase, 0, []string{"18", "21", "22", "17", "2", "26"}} }},
		{533, func(m *api.Msg) form { return numeral[int]{&m.Count, 0, api.MaxSeq} }},
		{tagScope, func(m *api.Msg) form { return scope{&m.Symbol} }},
	}
}

// types gives the kinds' types, from kind 1 on.
func types() []string {
	return []string{"0", "1", "2", "3", "4", "5", "A", "D", "F", "G", "q", "H", "8", "9", "r", "j", "f"}
}

func kindOfType(s string) int { return slices.Index(types(), s) + 1 }

func isTestID(s string) bool { return len(s) <= api.MaxID && msg.IsText(s) }
