package fix

import (
	"slices"

	"outcry/api"
	"outcry/clock"
	"outcry/num"
)

// form: how one field of a message is written as a value, and read. What is written is right already (msg.Valid).
type form interface {
	there() bool
	write() string
	read(s string) bool // false: s is not of the form, or may not stand there; the message is as it was then
}

// numeral: a number of least to most.
type numeral[N int | int64] struct {
	at          *N
	least, most int64
}

func (f numeral[N]) there() bool { return *f.at != 0 }

func (f numeral[N]) write() string { return num.Print(int64(*f.at)) }

func (f numeral[N]) read(s string) bool {
	n, e := num.ParseUint(s, f.most)
	if e != api.OK || n < f.least {
		return false
	}
	*f.at = N(n)
	return true
}

// The word for an order that has no number.
const noOrder = "NONE"

// orderNumber: the exchange's number of an order, or none.
type orderNumber struct{ at *int }

func (f orderNumber) there() bool { return *f.at != 0 }

func (f orderNumber) write() string {
	if *f.at == 0 {
		return noOrder
	}
	return num.Print(int64(*f.at))
}

func (f orderNumber) read(s string) bool {
	if s == noOrder {
		*f.at = 0
		return true
	}
	return numeral[int]{f.at, 1, api.MaxSeq}.read(s)
}

type date struct{ at *int }

func (f date) there() bool { return *f.at != 0 }

func (f date) write() string { return num.Print(int64(*f.at)) }

func (f date) read(s string) bool {
	const last = 99991231
	n, e := num.ParseUint(s, last)
	if e != api.OK {
		return false
	}
	// A date begins with a year of four digits, the first of which is no nought: so it is a numeral of eight digits.
	if _, e := clock.Start(int(n)); e != api.OK {
		return false
	}
	*f.at = int(n)
	return true
}

// stamp: a time from least on.
type stamp struct {
	at    *int64
	least int64
}

func (f stamp) there() bool { return *f.at != 0 }

func (f stamp) write() string {
	// The time is one: there is no error to tell.
	s, _ := clock.Stamp(*f.at)
	return s
}

func (f stamp) read(s string) bool {
	ms, e := clock.ParseStamp(s)
	if e != api.OK || ms < f.least {
		return false
	}
	*f.at = ms
	return true
}

type price struct{ at *int64 }

func (f price) there() bool { return *f.at != 0 }

func (f price) write() string { return num.PrintPrice(*f.at) }

func (f price) read(s string) bool {
	p, e := num.ParsePrice(s)
	if e != api.OK || p == 0 {
		return false
	}
	*f.at = p
	return true
}

// text: one that may be so. (No value of a frame is empty.)
type text struct {
	at  *string
	may func(s string) bool
}

func (f text) there() bool { return *f.at != "" }

func (f text) write() string { return *f.at }

func (f text) read(s string) bool {
	if !f.may(s) {
		return false
	}
	*f.at = s
	return true
}

type flag struct{ at *bool }

func (f flag) there() bool { return *f.at }

func (f flag) write() string {
	if *f.at {
		return "Y"
	}
	return "N"
}

func (f flag) read(s string) bool {
	if s != "Y" && s != "N" {
		return false
	}
	*f.at = s == "Y"
	return true
}

// code: a number for which a word stands; the words are those of first and the numbers behind it. Of one word for two numbers the first is read.
type code struct {
	at    *int
	first int
	words []string
}

func (f code) there() bool { return *f.at != 0 }

func (f code) write() string { return f.words[*f.at-f.first] }

func (f code) read(s string) bool {
	i := slices.Index(f.words, s)
	if i < 0 {
		return false
	}
	*f.at = f.first + i
	return true
}

// encryption: there is none, and a Logon says so.
type encryption struct{}

func (f encryption) there() bool { return true }

func (f encryption) write() string { return "0" }

func (f encryption) read(s string) bool { return s == "0" }

// instruction: makes PostOnly of a life of a day, which must have been read ahead; with any other it says nothing.
type instruction struct{ life *int }

func (f instruction) there() bool { return *f.life == api.PostOnly }

func (f instruction) write() string { return "6" }

func (f instruction) read(s string) bool {
	if s != "6" {
		return false
	}
	if *f.life == api.Day {
		*f.life = api.PostOnly
	}
	return true
}

const (
	scopeSymbol = "1"
	scopeAll    = "7"
)

// scope: whether one instrument is meant, or all.
type scope struct{ symbol *string }

func (f scope) there() bool { return true }

func (f scope) write() string { return scopeOf(*f.symbol) }

func (f scope) read(s string) bool { return s == scopeSymbol || s == scopeAll }

func scopeOf(symbol string) string {
	if symbol == "" {
		return scopeAll
	}
	return scopeSymbol
}
