package bin

import (
	"outcry/api"
	"outcry/msg"
)

// A block's length is a multiple of it.
const blockUnit = 8

// row: a field by its number, with the form of its place.
type row struct {
	number int
	form   form
}

// place: a row that a kind has, and how many bytes of the frame stand ahead of it.
type place struct {
	row
	at int
}

func (p place) of(frame []byte) []byte { return frame[p.at : p.at+p.form.size()] }

// layout: where the fields of one message stand; the forms write and read that message.
type layout struct {
	places []place
	end    int // of the last place
	size   int // of the frame; 0: there is no such kind
}

// layoutOf goes by the kind of a message alone, whatever else is in it.
func layoutOf(m *api.Msg) layout {
	l := layout{end: headSize}
	for _, r := range rows(m) {
		if msg.Has(m.Kind, r.number) > 0 {
			l.places = append(l.places, place{r, l.end})
			l.end += r.form.size()
		}
	}
	// Each kind has some fields.
	if len(l.places) == 0 {
		return layout{}
	}
	block := l.end - headSize
	l.size = headSize + (block+blockUnit-1)/blockUnit*blockUnit
	return l
}

// rows gives the fields in the order of their places, all but Kind, which stands in the head.
func rows(m *api.Msg) [41]row {
	return [41]row{
		{49, text{&m.Sender, 12}},
		{56, text{&m.Target, 12}},
		{34, number[int]{&m.Seq, 4}},
		{43, truth{&m.Dup}},
		{52, number[int64]{&m.Time, 8}},
		{122, number[int64]{&m.OrigTime, 8}},
		{108, number[int]{&m.Beat, 2}},
		{141, truth{&m.Reset}},
		{112, text{&m.TestID, 20}},
		{7, number[int]{&m.Begin, 4}},
		{16, number[int]{&m.End, 4}},
		{36, number[int]{&m.Next, 4}},
		{123, truth{&m.Fill}},
		{45, number[int]{&m.RefSeq, 4}},
		{372, number[int]{&m.RefKind, 1}},
		{371, number[int]{&m.RefTag, 2}},
		{373, number[int]{&m.Reason, 2}},
		{58, text{&m.Text, 60}},
		{11, text{&m.ID, 20}},
		{41, text{&m.OrigID, 20}},
		{1, text{&m.Account, 12}},
		{55, text{&m.Symbol, 8}},
		{54, number[int]{&m.Side, 1}},
		{40, number[int]{&m.Type, 1}},
		{59, number[int]{&m.Life, 1}},
		{44, number[int64]{&m.Price, 4}},
		{99, number[int64]{&m.Stop, 4}},
		{38, number[int64]{&m.Qty, 4}},
		{111, number[int64]{&m.Show, 4}},
		{110, number[int64]{&m.Least, 4}},
		{432, number[int]{&m.Until, 4}},
		{37, number[int]{&m.OrderID, 4}},
		{17, number[int]{&m.ExecID, 4}},
		{150, number[int]{&m.Exec, 1}},
		{39, number[int]{&m.State, 1}},
		{31, number[int64]{&m.LastPrice, 4}},
		{32, number[int64]{&m.LastQty, 4}},
		{151, number[int64]{&m.Left, 4}},
		{14, number[int64]{&m.Done, 4}},
		{326, number[int]{&m.Phase, 1}},
		{533, number[int]{&m.Count, 4}},
	}
}
