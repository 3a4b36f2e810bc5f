package viewer

import (
	"outcry/api"
	"outcry/num"
)

const (
	kindLevel   = 1
	kindTrade   = 2
	kindPhase   = 3
	kindAuction = 4
	kindLast    = 5
)

// notice is one as it stands in a packet, but that the price is the price, not a difference.
type notice struct {
	kind, place int
	side, phase int64
	price, qty  int64
	orders, all int64
}

func (n notice) spot() spot { return spot{n.place, int(n.side), n.price} }

// readNotices reads all that stands in bytes of a packet; false, if that is not right notices alone.
func readNotices(b []byte, of, places int) ([]notice, bool) {
	prices := make([]int64, places) // that were told last in this packet
	var l []notice
notices:
	for len(b) > 0 {
		n, size := readNotice(b, prices)
		switch {
		case size == 0, !n.mayStand(of):
			break notices
		case n.kind != kindAuction: // which changes nothing
			l = append(l, n)
		}
		b = b[size:]
	}
	return l, len(b) == 0
}

// readNotice reads the one with which bytes begin, and tells how many of them it is: 0, if there is none.
func readNotice(b []byte, prices []int64) (notice, int) {
	r := reader{rest: b}
	n := notice{kind: r.byte(), place: r.byte()}
	if n.place >= len(prices) {
		return notice{}, 0
	}
	if n.kind == kindLevel {
		n.side = int64(r.byte())
	}
	if n.kind != kindPhase {
		prices[n.place] += r.number()
		n.price = prices[n.place]
	}
	switch n.kind {
	case kindLevel:
		n.qty, n.orders = r.number(), r.number()
	case kindTrade:
		n.qty = r.number()
	case kindPhase:
		n.phase = r.number()
	case kindAuction:
		n.qty, _, n.side = r.number(), r.number(), r.number()
	case kindLast:
		n.qty, n.all = r.number(), r.number()
	}
	if r.failed {
		return notice{}, 0
	}
	return n, len(b) - len(r.rest)
}

// mayStand tells whether it is right in packets of a kind.
func (n notice) mayStand(of int) bool {
	switch n.kind {
	case kindLevel:
		return n.side >= api.Buy && n.side <= api.Sell && n.price >= 1 && n.price <= api.MaxPrice && (of == ofChanges || n.orders >= 1)
	case kindTrade:
		return of == ofChanges
	case kindPhase:
		return n.phase >= api.Closed && n.phase <= api.Closing
	case kindAuction:
		return of == ofChanges && n.side >= 0 && n.side <= api.Sell
	case kindLast:
		return of == ofSnapshot
	}
	return false
}

// reader takes numbers off bytes; once there is none, it has failed.
type reader struct {
	rest   []byte
	failed bool
}

func (r *reader) byte() int {
	if len(r.rest) == 0 {
		r.failed = true
		return 0
	}
	n := int(r.rest[0])
	r.rest = r.rest[1:]
	return n
}

func (r *reader) number() int64 {
	n, size := num.GetVar(r.rest)
	if size == 0 {
		r.failed = true
	}
	r.rest = r.rest[size:]
	return n
}
