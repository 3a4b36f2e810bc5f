package viewer

import (
	"outcry/api"
	"outcry/num"
)

const (
	ofChanges  = 1
	ofSnapshot = 2

	numberSize = 4
	kindAt     = 4
	partAt     = 5
	partsAt    = 6
	headSize   = 7 // the number, the kind, which part this is, and of how many
	sumSize    = 4
	leastSize  = headSize + 1 + sumSize
)

// packet is a right one, as it was read.
type packet struct {
	number      int
	kind        int
	part, parts int // of a snapshot
	time        int64
	notices     []notice
}

// read tells what bytes say, and whether they are a right packet of so many instruments (V2).
func read(b []byte, places int) (packet, bool) {
	if !isWhole(b) {
		return packet{}, false
	}
	number, _ := num.Get(b, numberSize)
	p := packet{number: int(number), kind: int(b[kindAt]), part: int(b[partAt]), parts: int(b[partsAt])}
	body := b[headSize : len(b)-sumSize]
	time, size := num.GetVar(body)
	if !p.mayBe() || size == 0 || time < 0 || time > api.MaxTime {
		return packet{}, false
	}
	body = body[size:]
	if p.kind == ofChanges && len(body) == 0 {
		return packet{}, false
	}
	l, ok := readNotices(body, p.kind, places)
	if !ok {
		return packet{}, false
	}
	p.time, p.notices = time, l
	return p, true
}

// isWhole tells whether so many bytes may be a packet, and their sum is right.
func isWhole(b []byte) bool {
	if len(b) < leastSize || len(b) > api.MaxPacket {
		return false
	}
	end := len(b) - sumSize
	sum, _ := num.Get(b[end:], sumSize)
	return sum == uint64(num.Crc(b[:end]))
}

// mayBe tells whether its head is right.
func (p packet) mayBe() bool {
	switch p.kind {
	case ofChanges:
		return p.number >= 1 && p.number <= api.MaxSeq && p.part == 0 && p.parts == 0
	case ofSnapshot:
		return p.number <= api.MaxSeq && p.part < p.parts
	}
	return false
}
