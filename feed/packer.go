package feed

import (
	"slices"

	"outcry/api"
	"outcry/num"
)

const (
	ofChanges  = 1
	ofSnapshot = 2

	numberSize = 4
	headSize   = numberSize + 3 // the number, the kind, which part this is, and of how many
	sumSize    = 4
)

// packer lays notices into packets, as many into each as there is room for.
type packer struct {
	time   []byte                // as it stands in each packet
	bodies [][]byte              // of each packet its notices
	ahead  [api.MaxListing]int64 // by places the prices that were told last in the last packet
}

func newPacker(now int64) *packer { return &packer{time: num.PutVar(nil, now)} }

func (p *packer) add(n notice) {
	b := n.bytes(p.ahead[n.place])
	if !p.hasRoom(len(b)) {
		p.bodies = append(p.bodies, nil)
		p.ahead = [api.MaxListing]int64{}
		b = n.bytes(0)
	}
	body := &p.bodies[len(p.bodies)-1]
	*body = append(*body, b...)
	if n.priced {
		p.ahead[n.place] = n.price
	}
}

// hasRoom tells whether there is a packet into which so many bytes more go.
func (p *packer) hasRoom(size int) bool {
	room := api.MaxPacket - headSize - len(p.time) - sumSize
	last := len(p.bodies) - 1
	return last >= 0 && len(p.bodies[last])+size <= room
}

// changes gives the packets as those of changes, numbered from first on.
func (p *packer) changes(first int) [][]byte {
	var l [][]byte
	for i, body := range p.bodies {
		l = append(l, p.packet(first+i, body, ofChanges, 0, 0))
	}
	return l
}

// snapshot gives the packets as those of a snapshot, as of a number.
func (p *packer) snapshot(number int) [][]byte {
	var l [][]byte
	for i, body := range p.bodies {
		l = append(l, p.packet(number, body, ofSnapshot, byte(i), byte(len(p.bodies))))
	}
	return l
}

func (p *packer) packet(number int, body []byte, kind, part, parts byte) []byte {
	head := append(num.Put(nil, uint64(number), numberSize), kind, part, parts)
	b := slices.Concat(head, p.time, body)
	return num.Put(b, uint64(num.Crc(b)), sumSize)
}
