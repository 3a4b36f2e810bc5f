package tape

import (
	"outcry/api"
	"outcry/num"
)

const (
	fieldCount = 24
	mostNumber = 1000000000000000000
	mostText   = 60 // bytes
)

// field is one of a command, in its place there.
type field interface {
	mayBe() bool
	isZero() bool
	write(b []byte) []byte
	// read takes what stands at a place, which may not be zero, and tells where it ends; false: where it is wrong.
	read(b []byte, at int) (int, bool)
}

type number[T int | int64] struct{ in *T }

type text struct{ in *string }

// fieldsOf tells the fields of a command in the order of their bits in the mask.
func fieldsOf(c *api.Command) [fieldCount]field {
	o, a := &c.O, &c.Account
	return [fieldCount]field{
		number[int64]{&c.Time}, number[int]{&c.Owner}, text{&c.Name},
		number[int]{&o.ID}, text{&o.Name}, text{&o.Account}, text{&o.Symbol},
		number[int]{&o.Side}, number[int]{&o.Type}, number[int]{&o.Life},
		number[int64]{&o.Price}, number[int64]{&o.Stop},
		number[int64]{&o.Qty}, number[int64]{&o.Show}, number[int64]{&o.Least},
		number[int]{&o.Until}, number[int]{&o.Owner}, number[int64]{&o.Done},
		text{&a.Name}, number[int64]{&a.Order}, number[int64]{&a.Open}, number[int64]{&a.Position},
		number[int]{&a.Burst}, number[int]{&a.Per},
	}
}

func (f number[T]) mayBe() bool { return *f.in >= 0 && int64(*f.in) <= mostNumber }

func (f number[T]) isZero() bool { return *f.in == 0 }

func (f number[T]) write(b []byte) []byte { return num.PutVar(b, int64(*f.in)) }

func (f number[T]) read(b []byte, at int) (int, bool) {
	n, end, ok := readNumber(b, at, 1, mostNumber)
	*f.in = T(n)
	return end, ok
}

func (f text) mayBe() bool { return len(*f.in) <= mostText }

func (f text) isZero() bool { return *f.in == "" }

func (f text) write(b []byte) []byte {
	return append(num.PutVar(b, int64(len(*f.in))), *f.in...)
}

func (f text) read(b []byte, at int) (int, bool) {
	length, begin, ok := readNumber(b, at, 1, mostText)
	if !ok {
		return at, false
	}
	end := begin + int(length)
	if end > len(b) {
		return len(b), false
	}
	*f.in = string(b[begin:end:end])
	return end, true
}

// readNumber reads one of least to most, and tells where it ends; false: there is none, and the place is where it should begin.
func readNumber(b []byte, at int, least, most int64) (int64, int, bool) {
	n, size := num.GetVar(b[at:])
	if size == 0 || n < least || n > most {
		return 0, at, false
	}
	return n, at + size, true
}
