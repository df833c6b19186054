package book

import (
	"cmp"

	"venue/api"
)

// ranked: the open orders of one side as a heap of the library, the first by rank on top.
type ranked []*Order

// byRank holds two orders of one side against each other: the better price first, then the earlier place.
func byRank(a, b *Order) int {
	prices := cmp.Compare(a.Order.Price, b.Order.Price)
	if a.Order.Side == api.Buy {
		prices = -prices
	}
	return cmp.Or(prices, cmp.Compare(a.place, b.place))
}

func (r ranked) Len() int { return len(r) }

func (r ranked) Less(i, j int) bool { return byRank(r[i], r[j]) < 0 }

func (r ranked) Swap(i, j int) {
	r[i], r[j] = r[j], r[i]
	r[i].index, r[j].index = i, j
}

// Push is called by the library alone: heap.Push moves the order to where it belongs.
func (r *ranked) Push(x any) {
	o := x.(*Order)
	o.index = len(*r)
	*r = append(*r, o)
}

// Pop is called by the library alone: heap.Remove has moved the order to the end.
func (r *ranked) Pop() any {
	last := len(*r) - 1
	o := (*r)[last]
	(*r)[last] = nil // so that the spare room keeps no order alive
	*r = (*r)[:last]
	return o
}
