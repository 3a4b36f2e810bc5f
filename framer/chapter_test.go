package framer

import (
	"bytes"
	"encoding/binary"
	"fmt"
	"hash/crc32"
	"math/rand"
	"slices"
	"strings"
	"sync"
	"testing"

	"outcry/api"
)

// A second reading of the chapter, by other means, against which the package is held: of all frames that there are, does one begin as the bytes do?

// answer: what is to come of a stream.
type answer struct {
	frames      []api.Frame
	waits, junk int
}

func (a answer) String() string {
	var s strings.Builder
	for _, f := range a.frames {
		fmt.Fprintf(&s, "%q behind %d, ", f.Bytes, f.Junk)
	}
	fmt.Fprintf(&s, "%d wait, %d junk", a.waits, a.junk)
	return s.String()
}

// sizes: how many bytes the frames in fixed places have, by the kind.
var sizes = map[byte]int{1: 82, 2: 82, 3: 66, 4: 130, 5: 122, 6: 122, 7: 58, 8: 122, 9: 106, 10: 122, 11: 98, 12: 90, 13: 226, 14: 162, 15: 154, 16: 122, 17: 130}

// textHeads: what stands ahead of the body, by the length.
var textHeads = sync.OnceValue(func() []string {
	var all []string
	for length := range 1001 {
		all = append(all, fmt.Sprintf("8=FIX.4.4\x019=%d\x01", length))
	}
	return all
})

// chapterSays is R2, of a whole stream.
func chapterSays(kind int, stream []byte) answer {
	says := map[int]func([]byte) (int, bool){Text: textSays, Binary: binarySays}[kind]
	var a answer
	ahead := 0
	for {
		size, could := says(stream)
		switch {
		case size > 0:
			a.frames = append(a.frames, api.Frame{Bytes: stream[:size], Junk: ahead})
			stream = stream[size:]
			ahead = 0
		case !could:
			a.junk++
			ahead++
			stream = stream[1:]
		default:
			a.waits = len(stream)
			return a
		}
	}
}

// textSays tells how many bytes a frame has that stands at the beginning (0: none does), and whether there could be one.
func textSays(b []byte) (int, bool) {
	could := len(b) == 0
	if len(b) > 0 && b[0] != '8' {
		return 0, false
	}
	for length, head := range textHeads() {
		end := len(head) + length
		switch {
		case len(b) <= len(head):
			could = could || strings.HasPrefix(head, string(b))
		case !bytes.HasPrefix(b, []byte(head)):
		case len(b) <= end:
			could = true
		default:
			last := textLast(b[:end])
			if bytes.HasPrefix(b[end:], []byte(last)) {
				return end + len(last), true
			}
			could = could || strings.HasPrefix(last, string(b[end:]))
		}
	}
	return 0, could
}

// textLast is the last field behind bytes.
func textLast(b []byte) string {
	sum := 0
	for _, c := range b {
		sum += int(c)
	}
	return fmt.Sprintf("10=%03d\x01", sum%256)
}

// binarySays is textSays of frames in fixed places.
func binarySays(b []byte) (int, bool) {
	if len(b) < 5 { // no kind yet, by which a length could be wrong
		return 0, strings.HasPrefix("OC", string(b[:min(2, len(b))]))
	}
	could := false
	for kind, size := range sizes {
		head := append(binary.BigEndian.AppendUint16([]byte("OC"), uint16(size)), kind, 1)
		n := min(len(b), len(head))
		switch {
		case !bytes.Equal(b[:n], head[:n]):
		case len(b) < size:
			could = true
		case bytes.Equal(b[:size], seal(bytes.Clone(b[:size]))):
			return size, true
		}
	}
	return 0, could
}

// seal gives a frame in fixed places the sum that goes with it.
func seal(b []byte) []byte {
	sum := crc32.NewIEEE()
	sum.Write(b[:6])
	sum.Write(b[10:])
	binary.BigEndian.PutUint32(b[6:], sum.Sum32())
	return b
}

func newFramer(t *testing.T, kind int) *Framer {
	t.Helper()
	f, e := New(kind)
	if f == nil || e != api.OK {
		t.Fatalf("New(%d) = %v, %d", kind, f, e)
	}
	return f
}

func sameFrame(a, b api.Frame) bool { return a.Junk == b.Junk && bytes.Equal(a.Bytes, b.Bytes) }

func sameAnswer(a, b answer) bool {
	return a.waits == b.waits && a.junk == b.junk && slices.EqualFunc(a.frames, b.frames, sameFrame)
}

// feed tells what comes of a stream that is cut at places, which rise.
func feed(t *testing.T, kind int, stream []byte, cuts ...int) answer {
	t.Helper()
	f := newFramer(t, kind)
	var a answer
	at := 0
	for _, cut := range append(slices.Clone(cuts), len(stream)) {
		a.frames = append(a.frames, f.Feed(stream[at:cut])...)
		at = cut
	}
	a.waits, a.junk = f.Waits(), f.Junk()
	return a
}

// want asks for an answer, whichever the pieces are: all at once, byte by byte, cut in two anywhere, in several sizes.
func want(t *testing.T, kind int, stream string, a answer) {
	t.Helper()
	b := []byte(stream)
	try := func(cuts ...int) {
		t.Helper()
		if got := feed(t, kind, b, cuts...); !sameAnswer(got, a) {
			t.Fatalf("%.300q, cut at %v: %.600s; want %.600s", stream, cuts[:min(9, len(cuts))], got, a)
		}
	}
	try()
	for _, size := range []int{1, 2, 3, 7, 64, 1023, 1024, 1025} {
		try(every(size, len(b))...)
	}
	for cut := range len(b) {
		try(cut)
	}
}

func every(size, length int) []int {
	var cuts []int
	for at := size; at < length; at += size {
		cuts = append(cuts, at)
	}
	return cuts
}

// holdAgainstChapter asks the package of a stream what the chapter says of it, all at once and in pieces.
func holdAgainstChapter(t *testing.T, r *rand.Rand, kind int, stream []byte) {
	t.Helper()
	a := chapterSays(kind, stream)
	for _, cuts := range [][]int{nil, every(1, len(stream)), randomCuts(r, len(stream))} {
		if got := feed(t, kind, stream, cuts...); !sameAnswer(got, a) {
			t.Fatalf("%q, cut at %v: %v; want %v", stream, cuts, got, a)
		}
	}
	held := a.waits + a.junk
	for _, f := range a.frames {
		held += len(f.Bytes)
	}
	if held != len(stream) || a.waits >= api.MaxFrame {
		t.Fatalf("%q: %d bytes are held, %d wait", stream, held, a.waits)
	}
}

// holdEachByte asks after each byte what the chapter says of the bytes up to it.
func holdEachByte(t *testing.T, kind int, stream []byte) {
	t.Helper()
	f := newFramer(t, kind)
	var got answer
	for i := range stream {
		got.frames = append(got.frames, f.Feed(stream[i:i+1])...)
		got.waits, got.junk = f.Waits(), f.Junk()
		if a := chapterSays(kind, stream[:i+1]); !sameAnswer(got, a) {
			t.Fatalf("%q: %v; want %v", stream[:i+1], got, a)
		}
	}
}

func randomCuts(r *rand.Rand, length int) []int {
	var cuts []int
	for at := r.Intn(20); at < length; at += r.Intn(1 + r.Intn(300)) {
		cuts = append(cuts, at)
	}
	return cuts
}
