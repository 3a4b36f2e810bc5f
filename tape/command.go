package tape

import (
	"outcry/api"
	"outcry/num"
)

const mostMask = 1<<fieldCount - 1

// Encode and Decode write and read one command (A5).
func Encode(c api.Command) ([]byte, api.Errno) {
	if c.Kind < api.DoNew || c.Kind > api.DoLimits {
		return nil, api.ErrKind
	}
	var mask int64
	var values []byte
	for i, f := range fieldsOf(&c) {
		if !f.mayBe() {
			return nil, api.ErrArg
		}
		if f.isZero() {
			continue
		}
		mask |= 1 << i
		values = f.write(values)
	}
	head := num.PutVar(num.PutVar(nil, int64(c.Kind)), mask)
	return append(head, values...), api.OK
}

// Decode reads one command; an error is an *api.Fault (A5).
func Decode(b []byte) (api.Command, error) {
	var c api.Command
	at, ok := readCommand(b, &c)
	if !ok || at < len(b) {
		return api.Command{}, &api.Fault{At: at, Err: api.ErrTape}
	}
	return c, nil
}

// readCommand tells where the command ends with which b begins; false: where it is wrong.
func readCommand(b []byte, c *api.Command) (int, bool) {
	kind, at, ok := readNumber(b, 0, api.DoNew, api.DoLimits)
	if !ok {
		return at, false
	}
	c.Kind = int(kind)
	mask, at, ok := readNumber(b, at, 0, mostMask)
	if !ok {
		return at, false
	}
	for i, f := range fieldsOf(c) {
		if mask>>i&1 == 0 {
			continue
		}
		if at, ok = f.read(b, at); !ok {
			return at, false
		}
	}
	return at, true
}
