package framer

import (
	"slices"

	"outcry/api"
	"outcry/bin"
	"outcry/num"
)

// look tells whether bytes begin with a frame, and how many bytes that has; or how many there must be, of those that could begin one, to tell more.
type look func(b []byte) (sight, int)

type sight int

const (
	begun sight = iota // they could begin a frame
	whole              // they begin with one
	wrong              // they could not begin one
)

// What stands in a frame of text.
const (
	head      = "8=FIX.4.4\x019="
	last      = "10="
	soh       = "\x01"
	maxLength = 1000
)

// The places of the head of a frame in fixed places, and what must stand there.
const (
	magic     = "\x4f\x43"
	atLength  = 2
	atKind    = 4
	atVersion = 5
	atSum     = 6
	headSize  = 10

	lengthSize = 2
	sumSize    = 4
	version    = "\x01"
)

func lookText(b []byte) (sight, int) {
	length, seen, body := lookLength(b)
	if seen != whole {
		return seen, body
	}
	end := body + length
	seen, at := lookFor(last, b, end)
	if seen != whole {
		return seen, at
	}
	return lookFor(printSum(num.Sum(b[:end]))+soh, b, at)
}

// lookLength looks at all that stands ahead of the body, the length among it, and tells where the body begins.
func lookLength(b []byte) (int, sight, int) {
	seen, at := lookFor(head, b, 0)
	if seen != whole {
		return 0, seen, at
	}
	if len(b) == at {
		return 0, begun, at + 1
	}
	end := at + countDigits(b[at:])
	// Digits that are wrong already stay so, whichever come behind them: a length may be read ahead of its end.
	length, e := num.ParseUint(string(b[at:end]), maxLength)
	if e != api.OK {
		return 0, wrong, 0
	}
	seen, body := lookFor(soh, b, end)
	return int(length), seen, body
}

func lookBinary(b []byte) (sight, int) {
	if seen, at := lookFor(magic, b, 0); seen != whole {
		return seen, at
	}
	if len(b) <= atKind {
		return begun, atKind + 1
	}
	// There is room for both numbers where they are got: nothing to be told of it.
	length, _ := num.Get(b[atLength:], lengthSize)
	size := bin.Size(int(b[atKind]))
	if size == 0 || length != uint64(size) {
		return wrong, 0
	}
	if seen, at := lookFor(version, b, atVersion); seen != whole {
		return seen, at
	}
	if len(b) < size {
		return begun, size
	}
	sum, _ := num.Get(b[atSum:], sumSize)
	if sum != uint64(num.Crc(slices.Concat(b[:atSum], b[headSize:size]))) {
		return wrong, 0
	}
	return whole, size
}

// lookFor looks whether a text stands at a place, up to which there may be no bytes yet; if it does, it tells the place behind it.
func lookFor(text string, b []byte, at int) (sight, int) {
	for i := range len(text) {
		if at+i >= len(b) {
			return begun, at + i + 1
		}
		if b[at+i] != text[i] {
			return wrong, 0
		}
	}
	return whole, at + len(text)
}

func countDigits(b []byte) int {
	n := 0
	for n < len(b) && b[n] >= '0' && b[n] <= '9' {
		n++
	}
	return n
}

// printSum writes a sum with noughts ahead, which the thousand keeps.
func printSum(sum int) string { return num.Print(int64(1000 + sum))[1:] }
