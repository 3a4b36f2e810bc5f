package listing

import (
	"math/big"
	"slices"
	"strings"
	"time"

	"outcry/api"
)

// A second reading of the chapter, by other means, against which the package is held: steps are asked from the last one on, prices are gone through one by one, turns stand in one row over many days, and what may stand together in an order is a table.

type reading struct {
	i        api.Instrument
	holidays []int
}

// mayList tells whether a listing of the instrument may be.
func (r reading) mayList() bool {
	i := r.i
	if i.Lot < 1 || i.Lot > 1000000 || i.Most < i.Lot || i.Most > 1000000 || i.Most/i.Lot*i.Lot != i.Most {
		return false
	}
	if len(i.Symbol) < 1 || len(i.Symbol) > 8 || strings.Trim(i.Symbol, "ABCDEFGHIJKLMNOPQRSTUVWXYZ0123456789") != "" || i.Symbol[0] < 'A' {
		return false
	}
	if i.Band < 0 || i.Band > 10000 || i.Maker < -10000 || i.Maker > 10000 || i.Taker < 0 || i.Taker > 10000 || i.Maker < -i.Taker {
		return false
	}
	return r.mayStep() && r.mayTurn() && r.mayBe(i.Reference)
}

func (r reading) mayStep() bool {
	steps := r.i.Steps
	if len(steps) == 0 || len(steps) > 8 || steps[0].From != 0 {
		return false
	}
	for k, s := range steps {
		if s.Tick < 1 || s.Tick > 1000000000 || s.From > 1000000000 || s.From < 0 {
			return false
		}
		if k+1 == len(steps) {
			break
		}
		width := new(big.Int).Sub(big.NewInt(steps[k+1].From), big.NewInt(s.From))
		if width.Sign() <= 0 || new(big.Int).Mod(width, big.NewInt(s.Tick)).Sign() != 0 {
			return false
		}
	}
	return true
}

func (r reading) mayTurn() bool {
	if len(r.i.Turns) > 10 {
		return false
	}
	for k, a := range r.i.Turns {
		if a.Minute < 0 || a.Minute > 1439 || !slices.Contains([]int{0, 1, 3, 5}, a.Phase) {
			return false
		}
		for _, b := range r.i.Turns[:k] {
			if b.Minute >= a.Minute {
				return false
			}
		}
	}
	return true
}

func (r reading) step(price int64) api.Step {
	for _, s := range slices.Backward(r.i.Steps) {
		if s.From <= price {
			return s
		}
	}
	return r.i.Steps[0]
}

func (r reading) mayBe(price int64) bool {
	s := r.step(price)
	return price >= 1 && price <= 1000000000 && (price-s.From)/s.Tick*s.Tick+s.From == price
}

// round looks at one price behind the other; it is for small ticks.
func (r reading) round(price int64, side int) int64 {
	switch side {
	case 1:
		for p := min(price, 1000000000); p > 0; p-- {
			if r.mayBe(p) {
				return p
			}
		}
	case 2:
		for p := max(price, 1); p <= 1000000000; p++ {
			if r.mayBe(p) {
				return p
			}
		}
	}
	return 0
}

func (r reading) band(reference int64) (int64, int64) {
	if r.i.Band == 0 || reference <= 0 {
		return 1, 1000000000
	}
	if reference > 1000000000 {
		reference = 1000000000
	}
	d := reference * int64(r.i.Band) / 10000
	return max(1, reference-d), min(1000000000, reference+d)
}

func (r reading) fee(value int64, taker bool) int64 {
	if value < 0 || value > 1000000000000000 {
		return 0
	}
	rate := map[bool]int{true: r.i.Taker, false: r.i.Maker}[taker]
	product := new(big.Int).Mul(big.NewInt(value), big.NewInt(int64(rate)))
	// The divisor is above 0: what big.Int calls Euclid's way rounds down.
	return new(big.Int).Div(product, big.NewInt(1000000)).Int64()
}

// The lives that go with a type, a Show and a Least, by their numbers: 1 Day, 2 IOC, 3 FOK, 4 GTC, 5 GTD, 6 AtOpen, 7 PostOnly.
var (
	livesOfType  = map[int]string{1: "1234567", 2: "236", 3: "145", 4: "145"}
	livesOfShow  = map[int]string{1: "1457"}
	livesOfLeast = map[int]string{1: "1245", 2: "1245"}
	livesInPhase = map[int]string{1: "1456", 3: "123457", 5: "145"}
	signsOfType  = map[int][2]int{1: {1, 0}, 2: {0, 0}, 3: {0, 1}, 4: {1, 1}} // of Price and of Stop
)

func has(lives string, life int) bool {
	return life >= 1 && life <= 9 && strings.ContainsRune(lives, rune('0'+life))
}

func sign(n int64) int { return big.NewInt(n).Sign() }

func (r reading) check(o api.Order, phase int, reference int64, date int) api.Errno {
	low, high := r.band(reference)
	switch {
	case !r.fits(o, date):
		return 105
	case !r.lots(o):
		return 102
	case o.Price != 0 && !r.mayBe(o.Price), o.Stop != 0 && !r.mayBe(o.Stop):
		return 101
	case o.Price != 0 && o.Price < low, o.Price != 0 && o.Price > high:
		return 103
	case !has(livesInPhase[phase], o.Life), phase != 3 && o.Least != 0:
		return 104
	}
	return 0
}

func (r reading) fits(o api.Order, date int) bool {
	if o.Side != 1 && o.Side != 2 || !has(livesOfType[o.Type], o.Life) {
		return false
	}
	if signsOfType[o.Type] != [2]int{sign(o.Price), sign(o.Stop)} {
		return false
	}
	if o.Show < 0 || o.Show > 0 && !has(livesOfShow[o.Type], o.Life) {
		return false
	}
	if o.Least < 0 || o.Least > 0 && !has(livesOfLeast[o.Type], o.Life) {
		return false
	}
	if o.Life == 5 {
		return isDate(o.Until) && o.Until >= date
	}
	return o.Until == 0
}

func (r reading) lots(o api.Order) bool {
	if o.Qty < 1 || o.Qty > r.i.Most {
		return false
	}
	for _, q := range []int64{o.Qty, o.Show, o.Least} {
		if q > o.Qty || q/r.i.Lot*r.i.Lot != q {
			return false
		}
	}
	return o.Show == 0 || o.Show >= (o.Qty+99)/100
}

// isDate tells by the library's means whether a number is a date.
func isDate(date int) bool {
	if date < 19700101 || date > 99991231 {
		return false
	}
	day := time.Date(date/10000, time.Month(date/100%100), date%100, 0, 0, 0, 0, time.UTC)
	return dateOf(day) == date
}

func dateOf(day time.Time) int { return day.Year()*10000 + int(day.Month())*100 + day.Day() }

func (r reading) isOpen(day time.Time) bool {
	return day.Weekday() != time.Saturday && day.Weekday() != time.Sunday && !slices.Contains(r.holidays, dateOf(day))
}

// phase goes through the turns of the time's day, and of days behind it, as far as there may be none of trade.
func (r reading) phase(ms int64) (int, int64) {
	if ms < 0 || ms > 253402300799999 {
		return 0, 0
	}
	first := time.UnixMilli(ms).UTC().Truncate(24 * time.Hour)
	phase := 0
	for days := range 4 + 3*len(r.holidays) {
		day := first.AddDate(0, 0, days)
		if day.Year() > 9999 || !r.isOpen(day) {
			continue
		}
		for _, turn := range r.i.Turns {
			begins := day.Add(time.Duration(turn.Minute) * time.Minute).UnixMilli()
			if begins > ms {
				return phase, begins
			}
			phase = turn.Phase
		}
	}
	return phase, 0
}
