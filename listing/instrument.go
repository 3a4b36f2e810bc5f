package listing

import (
	"outcry/api"
	"outcry/msg"
)

const (
	maxSteps   = 8
	maxTurns   = 10
	maxFee     = 10000
	lastMinute = 24*60 - 1
)

// isInstrument tells whether it may be listed.
func isInstrument(i api.Instrument) bool {
	return msg.IsSymbol(i.Symbol) && areLots(i.Lot, i.Most) && areSteps(i.Steps) &&
		within(i.Band, 0, wholeBand) && mayBe(i.Steps, i.Reference) &&
		areTurns(i.Turns) && areFees(i.Maker, i.Taker)
}

func areLots(lot, most int64) bool {
	return within(lot, 1, api.MaxQty) && within(most, lot, api.MaxQty) && most%lot == 0
}

func areSteps(steps []api.Step) bool {
	if !within(len(steps), 1, maxSteps) || steps[0].From != 0 {
		return false
	}
	for n, step := range steps {
		if n > 0 && !follows(step, steps[n-1]) {
			return false
		}
		if !within(step.Tick, 1, api.MaxPrice) {
			return false
		}
	}
	return true
}

// follows tells whether a step may begin where it does, behind one that may be.
func follows(step, ahead api.Step) bool {
	return within(step.From, ahead.From+1, api.MaxPrice) && (step.From-ahead.From)%ahead.Tick == 0
}

func areTurns(turns []api.Turn) bool {
	if len(turns) > maxTurns {
		return false
	}
	least := 0
	for _, turn := range turns {
		if !within(turn.Minute, least, lastMinute) || !mayTurnTo(turn.Phase) {
			return false
		}
		least = turn.Minute + 1
	}
	return true
}

// mayTurnTo leaves out the phases that no minute brings: Opening goes ahead of Trading, Halted comes by hand.
func mayTurnTo(phase int) bool {
	switch phase {
	case api.Closed, api.PreOpen, api.Trading, api.Closing:
		return true
	}
	return false
}

func areFees(maker, taker int) bool {
	return within(maker, -maxFee, maxFee) && within(taker, 0, maxFee) && maker+taker >= 0
}
