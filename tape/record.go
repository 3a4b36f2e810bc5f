package tape

import (
	"bytes"
	"slices"

	"outcry/num"
)

const (
	lengthSize = 2
	sumSize    = 4
	headSize   = lengthSize + sumSize
	numberSize = 4

	mostBytes = 600 // of a command
)

// record writes the record of a command's bytes, as the one of this number. The number counts in the sum alone, so that no record is right in another's place.
func record(command []byte, number int) []byte {
	length := num.Put(nil, uint64(len(command)), lengthSize)
	sum := num.Crc(slices.Concat(length, num.Put(nil, uint64(number), numberSize), command))
	return slices.Concat(length, num.Put(nil, uint64(sum), sumSize), command)
}

// firstRecord cuts out the record with which b begins, if it is right as the one of this number. The third index keeps off from what follows who appends to it.
func firstRecord(b []byte, number int) ([]byte, bool) {
	length, ok := num.Get(b, lengthSize)
	if !ok || length < 1 || length > mostBytes {
		return nil, false
	}
	end := headSize + int(length)
	if len(b) < end {
		return nil, false
	}
	r := b[:end:end]
	command := commandOf(r)
	if !bytes.Equal(r, record(command, number)) {
		return nil, false
	}
	_, err := Decode(command)
	return r, err == nil
}

func commandOf(record []byte) []byte {
	return record[headSize:len(record):len(record)]
}
