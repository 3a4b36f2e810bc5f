package feed

import "outcry/num"

const (
	kindLevel   = 1
	kindTrade   = 2
	kindPhase   = 3
	kindAuction = 4
	kindLast    = 5
)

// notice is one as it stands in a packet, but that the price is told as a difference there.
type notice struct {
	head   []byte // the kind, the place, and of a level the side
	place  int
	priced bool
	price  int64
	rest   []int64 // the numbers behind the price
}

// levelNotice tells what a level is, by the differences to what it was.
func levelNotice(at spot, was, is depth) notice {
	n := priced(kindLevel, at.place, at.price, is.qty-was.qty, int64(is.orders-was.orders))
	n.head = append(n.head, byte(at.side))
	return n
}

func tradeNotice(place int, price, qty int64) notice {
	return priced(kindTrade, place, price, qty)
}

func phaseNotice(place int, phase int) notice {
	return notice{head: headOf(kindPhase, place), place: place, rest: []int64{int64(phase)}}
}

func auctionNotice(place int, price, qty, over int64, side int) notice {
	return priced(kindAuction, place, price, qty, over, int64(side))
}

func lastNotice(place int, price, qty, all int64) notice {
	return priced(kindLast, place, price, qty, all)
}

func priced(kind, place int, price int64, rest ...int64) notice {
	return notice{head: headOf(kind, place), place: place, priced: true, price: price, rest: rest}
}

func headOf(kind, place int) []byte { return []byte{byte(kind), byte(place)} }

// bytes writes it behind a notice of the same instrument that told the price ahead.
func (n notice) bytes(ahead int64) []byte {
	b := n.head
	if n.priced {
		b = num.PutVar(b, n.price-ahead)
	}
	for _, v := range n.rest {
		b = num.PutVar(b, v)
	}
	return b
}
