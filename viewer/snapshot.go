package viewer

import "cmp"

// snapshot is one whose parts are collected.
type snapshot struct {
	number  int
	time    int64
	parts   []part // by their places
	missing int    // how many of them have not come
}

type part struct {
	come    bool
	notices []notice
}

// newSnapshot makes the one of which a packet is a part, none of which has come.
func newSnapshot(p packet) *snapshot {
	return &snapshot{number: p.number, time: p.time, parts: make([]part, p.parts), missing: p.parts}
}

// compare tells whether it is an earlier snapshot than a packet's (below 0), or a later one (above 0).
func (s *snapshot) compare(p packet) int {
	return cmp.Or(cmp.Compare(s.number, p.number), cmp.Compare(s.time, p.time))
}

// add lets be what is of another snapshot, and a part that has come already.
func (s *snapshot) add(p packet) {
	if s.compare(p) != 0 || len(s.parts) != p.parts || s.parts[p.part].come {
		return
	}
	s.parts[p.part] = part{come: true, notices: p.notices}
	s.missing--
}

// market is what all the parts say, and nothing else.
func (s *snapshot) market() market {
	m := newMarket()
	for _, x := range s.parts {
		m.show(x.notices)
	}
	return m
}
