package book

import "venue/api"

// Order: an order, what became of its quantity, and where it stands in its book.
type Order struct {
	api.Status     // its Order.Price is the last price that the order had
	place      int // of equal prices the lower one came earlier
	index      int // in the heap of its side, so that it is found there when it leaves
}

// NewOrder makes an order that comes: all of it is open, but it is in no book yet.
func NewOrder(asked api.Order) *Order {
	return &Order{Status: api.Status{Order: asked, Entered: asked.Quantity, Open: asked.Quantity}}
}

// Fill lets some of what is open be filled.
func (o *Order) Fill(quantity int) {
	o.Open -= quantity
	o.Filled += quantity
}

// CancelOpen cancels all that is open.
func (o *Order) CancelOpen() {
	o.Cancelled += o.Open
	o.Open = 0
}

// ExpireOpen lets all that is open be expired.
func (o *Order) ExpireOpen() {
	o.Expired += o.Open
	o.Open = 0
}

// OpenFilled lets some of what is filled be open again.
func (o *Order) OpenFilled(quantity int) {
	o.Filled -= quantity
	o.Open += quantity
}

// CancelFilled lets some of what is filled be cancelled.
func (o *Order) CancelFilled(quantity int) {
	o.Filled -= quantity
	o.Cancelled += quantity
}

// Rests tells whether what is not traded of the order waits in the book.
func (o *Order) Rests() bool {
	switch o.Order.Kind {
	case api.Limit, api.Day, api.Post:
		return true
	}
	return false
}

// good tells whether an order that waits at a price, on the other side, is good for one that comes.
func good(comes api.Order, price int) bool {
	switch {
	case comes.Kind == api.Market:
		return true
	case comes.Side == api.Buy:
		return price <= comes.Price
	}
	return price >= comes.Price
}
