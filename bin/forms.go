package bin

import (
	"slices"

	"outcry/api"
	"outcry/num"
)

// form: how one field of a message stands in its place. What is written is right already (msg.Valid), into a place of noughts.
type form interface {
	size() int
	write(place []byte)
	read(place []byte) (at int, e api.Errno) // at: which byte of the place is wrong; the message is as it was then
}

// truth: 1 or 0.
type truth struct{ field *bool }

func (f truth) size() int { return 1 }

func (f truth) write(place []byte) {
	if *f.field {
		place[0] = 1
	}
}

func (f truth) read(place []byte) (int, api.Errno) {
	if place[0] > 1 {
		return 0, api.ErrValue
	}
	*f.field = place[0] == 1
	return 0, api.OK
}

// number: the highest byte first.
type number[N int | int64] struct {
	field *N
	bytes int
}

func (f number[N]) size() int { return f.bytes }

func (f number[N]) write(place []byte) {
	copy(place, num.Put(nil, uint64(*f.field), f.bytes))
}

// read takes every number: one that N does not hold comes out below 0, which msg.Valid lets stand nowhere.
func (f number[N]) read(place []byte) (int, api.Errno) {
	n, _ := num.Get(place, f.bytes)
	*f.field = N(n)
	return 0, api.OK
}

// text: its bytes, and noughts behind them.
type text struct {
	field *string
	bytes int
}

func (f text) size() int { return f.bytes }

func (f text) write(place []byte) { copy(place, *f.field) }

func (f text) read(place []byte) (int, api.Errno) {
	end := slices.Index(place, 0)
	if end < 0 {
		end = len(place)
	}
	if at := end + noughts(place[end:]); at < len(place) {
		return at, api.ErrPad
	}
	*f.field = string(place[:end])
	return 0, api.OK
}

// noughts tells how many noughts bytes begin with.
func noughts(b []byte) int {
	at := slices.IndexFunc(b, func(c byte) bool { return c != 0 })
	if at < 0 {
		return len(b)
	}
	return at
}
