package listing

import "outcry/api"

// stepOf tells the step of a price; one below 0 has the first.
func stepOf(steps []api.Step, price int64) api.Step {
	found := steps[0]
	for _, step := range steps[1:] {
		if step.From <= price {
			found = step
		}
	}
	return found
}

// onTick goes down from a price that is not below the step's first one to the next that is a whole number of its ticks.
func onTick(step api.Step, price int64) int64 { return price - (price-step.From)%step.Tick }

func mayBe(steps []api.Step, price int64) bool {
	return within(price, 1, api.MaxPrice) && onTick(stepOf(steps, price), price) == price
}

// roundDown may come down to 0, which is no price: then there is none.
func roundDown(steps []api.Step, price int64) int64 {
	if price < 1 {
		return 0
	}
	price = min(price, api.MaxPrice)
	return onTick(stepOf(steps, price), price)
}

// roundUp stays within the price's step, or comes to where the next one begins, which may be: a step is a whole number of its ticks.
func roundUp(steps []api.Step, price int64) int64 {
	if price > api.MaxPrice {
		return 0
	}
	price = max(price, 1)
	step := stepOf(steps, price)
	up := onTick(step, price+step.Tick-1)
	if up > api.MaxPrice {
		return 0
	}
	return up
}
