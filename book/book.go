// Package book: the open orders of one symbol; the best of each side is found by a heap.
package book

import (
	"container/heap"
	"slices"

	"venue/api"
)

// Book: both sides of a symbol.
type Book struct {
	Symbol string
	sides  [2]ranked
	places int // the last place that was given
}

// New makes a book without orders.
func New(symbol string) *Book { return &Book{Symbol: symbol} }

// Rest puts an order into the book, behind all others of its price. It gives a function that puts that back,
// for when the book and the order are again as they were then; so does Leave.
func (b *Book) Rest(o *Order) (back func()) {
	before := o.place
	b.places++
	o.place = b.places
	b.push(o)
	return func() {
		b.remove(o)
		o.place = before
		b.places--
	}
}

// Leave takes an order out of the book. Its price must still be the one that it rested at. Put back, it stands
// where it stood, as its place is still its own.
func (b *Book) Leave(o *Order) (back func()) {
	b.remove(o)
	return func() { b.push(o) }
}

func (b *Book) push(o *Order) { heap.Push(&b.sides[o.Order.Side], o) }

func (b *Book) remove(o *Order) { heap.Remove(&b.sides[o.Order.Side], o.index) }

// FirstGood gives the first order by rank that is good for one that comes; nil, if none is.
func (b *Book) FirstGood(comes api.Order) *Order {
	waiting := b.sides[other(comes.Side)]
	if len(waiting) == 0 || !good(comes, waiting[0].Order.Price) {
		return nil
	}
	return waiting[0]
}

// Supply tells how much the orders of other owners that are good for one that comes have open together.
func (b *Book) Supply(comes api.Order) int {
	sum := 0
	for _, o := range b.sides[other(comes.Side)] {
		if o.Order.Owner != comes.Owner && good(comes, o.Order.Price) {
			sum += o.Open
		}
	}
	return sum
}

// Levels tells of each price of a side, the best first, how much is open and of how many orders.
func (b *Book) Levels(side int) []api.Level {
	orders := slices.SortedFunc(slices.Values(b.sides[side]), byRank)
	var levels []api.Level
	for _, o := range orders {
		last := len(levels) - 1
		if last < 0 || levels[last].Price != o.Order.Price {
			levels = append(levels, api.Level{Price: o.Order.Price})
			last++
		}
		levels[last].Quantity += o.Open
		levels[last].Orders++
	}
	return levels
}

func other(side int) int { return api.Buy + api.Sell - side }
