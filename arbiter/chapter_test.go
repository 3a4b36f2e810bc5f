package arbiter

import (
	"encoding/binary"
	"fmt"
	"hash/crc32"
	"math"
	"math/rand"
	"slices"
	"testing"

	"outcry/api"
)

// A second reading of the chapter, by other means, against which the package is held.

// seal puts the sum behind some bytes.
func seal(b []byte) []byte {
	return binary.BigEndian.AppendUint32(slices.Clip(b), crc32.ChecksumIEEE(b))
}

// packet is a right one with a number, and anything behind its kind.
func packet(number int, body string) []byte {
	b := binary.BigEndian.AppendUint32(nil, uint32(number))
	return seal(append(append(b, 1), body...))
}

// chapterArbiter keeps what came ahead in a row: the place i is the number next + i.
type chapterArbiter struct {
	patience      int64
	next          int
	row           []string // as long as the window; "": it has not come
	since, latest int64
	lines         [2][4]int
}

func newChapterArbiter(window int, patience int64) *chapterArbiter {
	return &chapterArbiter{patience: patience, next: 1, row: make([]string, window)}
}

func timely(now int64) bool { return now >= 0 && now <= 253402300799999 }

// right tells the number of bytes that are a right packet.
func right(b []byte) (number int, ok bool) {
	if len(b) < 9 || string(seal(b[:len(b)-4])) != string(b) {
		return 0, false
	}
	number = int(binary.BigEndian.Uint32(b))
	return number, number >= 1 && number <= 999999999 && b[4] == 1
}

// many tells how many are kept.
func (c *chapterArbiter) many() int {
	n := 0
	for _, b := range c.row {
		if b != "" {
			n++
		}
	}
	return n
}

// move takes the head of the row off.
func (c *chapterArbiter) move() string {
	head := c.row[0]
	c.row = append(slices.Clone(c.row[1:]), "")
	c.next++
	return head
}

func (c *chapterArbiter) give() []string {
	var l []string
	for c.row[0] != "" {
		l = append(l, c.move())
	}
	if c.many() > 0 {
		c.since = c.latest
	}
	return l
}

func (c *chapterArbiter) hear(line int, b []byte, now int64) ([]string, api.Errno) {
	if line < 0 || line > 1 || !timely(now) {
		return nil, 1
	}
	if now > c.latest {
		c.latest = now
	}
	counts := &c.lines[line]
	counts[0]++
	number, ok := right(b)
	if !ok {
		counts[3]++
		return nil, 200
	}
	at := number - c.next
	if at < 0 || at < len(c.row) && c.row[at] != "" {
		counts[2]++
		return nil, 0
	}
	if at >= len(c.row) {
		return nil, 0
	}
	counts[1]++
	c.row[at] = string(b)
	if at > 0 && c.many() == 1 {
		c.since = c.latest
	}
	if at > 0 {
		return nil, 0
	}
	return c.give(), 0
}

func (c *chapterArbiter) tick(now int64) []string {
	if !timely(now) {
		return nil
	}
	if now > c.latest {
		c.latest = now
	}
	if c.many() == 0 || c.latest < c.since+c.patience {
		return nil
	}
	for c.row[0] == "" {
		c.move()
	}
	return c.give()
}

func (c *chapterArbiter) wants(now int64) string {
	var l [][2]int
	if !timely(now) || c.many() == 0 || max(now, c.latest) < c.since+c.patience/2 {
		return fmt.Sprint(l)
	}
	last := 0
	for at, b := range c.row {
		if b != "" {
			last = at
		}
	}
	for at := range last {
		if c.row[at] != "" {
			continue
		}
		if at > 0 && c.row[at-1] == "" {
			l[len(l)-1][1]++
		} else {
			l = append(l, [2]int{c.next + at, c.next + at})
		}
	}
	return fmt.Sprint(l)
}

// texts are packets that were given.
func texts(l [][]byte) []string {
	var s []string
	for _, b := range l {
		s = append(s, string(b))
	}
	return s
}

// times are those at which something may turn, for who waits so long since then.
func times(c *chapterArbiter) []int64 {
	var l []int64
	for _, base := range []int64{c.since, c.latest} {
		for _, span := range []int64{0, c.patience / 2, c.patience} {
			l = append(l, base+span-1, base+span, base+span+1)
		}
	}
	return append(l, 0, api.MaxTime, api.MaxTime+1, -1, math.MaxInt64, math.MinInt64)
}

// anyTime is one near those at which something turns, most often a later one.
func anyTime(r *rand.Rand, c *chapterArbiter) int64 {
	switch r.Intn(12) {
	case 0:
		l := times(c)
		return l[r.Intn(12)]
	case 1:
		return []int64{-1, api.MaxTime + 1, math.MaxInt64, math.MinInt64, r.Int63()}[r.Intn(5)]
	case 2:
		return c.latest - r.Int63n(4)
	}
	return c.latest + r.Int63n(4)
}

// anyPacket is one near what is to be given next; right or spoilt.
func anyPacket(r *rand.Rand, c *chapterArbiter) []byte {
	number := c.next
	switch r.Intn(8) {
	case 0:
		number += r.Intn(len(c.row)+3) - 1
	case 1, 2, 3:
		number += r.Intn(min(len(c.row), 6) + 2)
	case 4:
		number -= r.Intn(5)
	}
	b := packet(number, "any body of a packet"[:r.Intn(20)])
	switch r.Intn(30) {
	case 0:
		b[r.Intn(len(b))] ^= byte(1 + r.Intn(255))
	case 1:
		b = b[:r.Intn(len(b)+1)]
	case 2:
		b = seal(b[:r.Intn(6)])
	case 3:
		b[4] = byte(r.Intn(4))
		b = seal(b[:len(b)-4])
	case 4:
		b = packet([]int{0, 1000000000, 1 << 31, 1<<32 - 1}[r.Intn(4)], "")
	}
	return b
}

// agree: the answers are the same, whenever one asks.
func agree(t *testing.T, a *Arbiter, c *chapterArbiter) {
	t.Helper()
	if a.Next() != c.next || a.Lines() != c.lines {
		t.Fatalf("Next %d, Lines %v, want %d, %v", a.Next(), a.Lines(), c.next, c.lines)
	}
	for _, now := range times(c) {
		if got, want := fmt.Sprint(a.Wants(now)), c.wants(now); got != want {
			t.Fatalf("Wants(%d): %s, want %s", now, got, want)
		}
	}
}

// TestAgainstTheChapter holds all calls against the second reading, over many walks of any packets at any times.
func TestAgainstTheChapter(t *testing.T) {
	given, skipped, far, wanted := 0, 0, 0, 0
	for seed := range int64(300) {
		r := rand.New(rand.NewSource(seed))
		window := []int{1, 2, 3, 5, 20, 1000}[r.Intn(6)]
		patience := []int64{0, 1, 2, 3, 7, 30, api.MaxTime}[r.Intn(7)]
		a, c := newArbiter(t, window, patience), newChapterArbiter(window, patience)
		steps := 400
		if window == 1000 {
			steps = 60
		}
		for range steps {
			now, was := anyTime(r, c), c.next
			var got, want []string
			if r.Intn(6) == 0 {
				got, want = texts(a.Tick(now)), c.tick(now)
				if c.next > was+len(want) {
					skipped++
				}
			} else {
				line, b := r.Intn(2), anyPacket(r, c)
				if r.Intn(40) == 0 {
					line = []int{-1, 2, math.MaxInt, math.MinInt}[r.Intn(4)]
				}
				before := c.lines
				l, e := a.Hear(line, b, now)
				s, errno := c.hear(line, b, now)
				if e != errno {
					t.Fatalf("walk %d: Hear(%d, %x, %d): %d, want %d", seed, line, b, now, e, errno)
				}
				got, want = texts(l), s
				if e == api.OK && c.lines[line] == [4]int{before[line][0] + 1, before[line][1], before[line][2], before[line][3]} {
					far++
				}
			}
			if !slices.Equal(got, want) {
				t.Fatalf("walk %d: at %d it gives %x, want %x", seed, now, got, want)
			}
			agree(t, a, c)
			given += len(got)
			if c.wants(c.latest) != "[]" {
				wanted++
			}
		}
	}
	if given < 20000 || skipped < 500 || far < 3000 || wanted < 5000 {
		t.Errorf("only %d were given, %d gaps passed, %d too far ahead, %d times something was wanted", given, skipped, far, wanted)
	}
}
