package book

import "outcry/api"

// changes gives the levels of a side that are others than they were, the best price first; of a price at which nothing waits any more, that alone.
func changes(side int, was, is []api.Level) []api.Level {
	var l []api.Level
	for len(was) > 0 || len(is) > 0 {
		switch {
		case len(is) == 0 || len(was) > 0 && better(side, was[0], is[0]):
			l = append(l, api.Level{Price: was[0].Price})
			was = was[1:]
		case len(was) == 0 || better(side, is[0], was[0]):
			l = append(l, is[0])
			is = is[1:]
		default:
			if is[0] != was[0] {
				l = append(l, is[0])
			}
			was, is = was[1:], is[1:]
		}
	}
	return l
}

// better tells whether the price of one level is ahead of that of another one.
func better(side int, a, b api.Level) bool {
	return standing(side, a.Price) < standing(side, b.Price)
}
