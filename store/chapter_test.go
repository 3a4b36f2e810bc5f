package store

import (
	"fmt"
	"strings"

	"outcry/api"
)

// A second reading of the chapter, by other means, against which the package is held: each number that was passed is written down, and asked one by one.

// ledger: what has become of the numbers, the first at place 0.
type ledger struct {
	keep    int
	numbers []number
}

// number: one that was passed; put tells whether a message belongs to it.
type number struct {
	put bool
	m   api.Msg
}

func (l *ledger) next() int { return len(l.numbers) + 1 }

func (l *ledger) put(m api.Msg) api.Errno {
	if m.Seq != l.next() {
		return api.ErrOrder
	}
	l.numbers = append(l.numbers, number{true, m})
	return api.OK
}

func (l *ledger) skip() { l.numbers = append(l.numbers, number{}) }

// behind counts the messages that were put in at a number or behind it.
func (l *ledger) behind(n int) int {
	count := 0
	for _, x := range l.numbers[n-1:] {
		if x.put {
			count++
		}
	}
	return count
}

// one is the part of one number alone.
func (l *ledger) one(n int) api.Part {
	x := l.numbers[n-1]
	switch {
	case !x.put:
		return api.Part{From: n, To: n}
	case l.behind(n) > l.keep:
		return api.Part{From: n, To: n, Lost: true}
	}
	return api.Part{From: n, To: n, M: x.m}
}

func (l *ledger) parts(from, to int) ([]api.Part, api.Errno) {
	if to == 0 && from >= l.next() {
		return nil, api.ErrArg
	}
	if to == 0 {
		to = l.next() - 1
	}
	if from < 1 || to < from || to >= l.next() {
		return nil, api.ErrArg
	}
	var all []api.Part
	for n := from; n <= to; n++ {
		all = append(all, l.one(n))
	}
	return joined(all), api.OK
}

func (l *ledger) kept() (int, int) {
	all := 0
	if len(l.numbers) > 0 {
		all = l.behind(1)
	}
	return min(all, l.keep), max(all-l.keep, 0)
}

// joined makes rows of parts that touch and are of the same kind, but for messages.
func joined(parts []api.Part) []api.Part {
	var out []api.Part
	for _, p := range parts {
		if k := len(out) - 1; k >= 0 && isRow(p) && isRow(out[k]) && p.Lost == out[k].Lost && p.From == out[k].To+1 {
			out[k].To = p.To
			continue
		}
		out = append(out, p)
	}
	return out
}

func isRow(p api.Part) bool { return p.Lost || p.M.Seq == 0 }

// told writes parts in short: a kept message as its number, L and S for the rows that were lost and skipped.
func told(parts []api.Part) string {
	var out []string
	for _, p := range parts {
		switch {
		case p.M == (api.Msg{}) && p.Lost:
			out = append(out, fmt.Sprintf("L%d-%d", p.From, p.To))
		case p.M == (api.Msg{}):
			out = append(out, fmt.Sprintf("S%d-%d", p.From, p.To))
		case !p.Lost && p.From == p.To && p.M.Seq == p.From:
			out = append(out, fmt.Sprint(p.From))
		default:
			out = append(out, fmt.Sprintf("?%+v", p))
		}
	}
	return strings.Join(out, " ")
}
