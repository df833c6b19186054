package book

import "venue/api"

// Order: an order, what became of its quantity, and where it stands in its book.
type Order struct {
	api.Status     // its Order.Price is the last price that the order had
	place      int // of equal prices the lower one came earlier
	index      int // in the heap of its side, so that it is found there when it leaves
}

// NewOrder makes an order that comes: all of it is open, but it is in no book yet.
func NewOrder(asked api.Order) *Order {
	return &Order{Status: api.Status{Order: asked, Entered: asked.Quantity, Open: asked.Quantity}}
}

// asNow gives a function that lets the order's price and counts be as they are now.
func (o *Order) asNow() func() {
	now := o.Status
	return func() { o.Status = now }
}

// Fill lets some of what is open be filled. Like all that change an order it gives a function that puts that back.
func (o *Order) Fill(quantity int) (back func()) {
	back = o.asNow()
	o.Open -= quantity
	o.Filled += quantity
	return back
}

// CancelOpen cancels all that is open.
func (o *Order) CancelOpen() (back func()) {
	back = o.asNow()
	o.Cancelled += o.Open
	o.Open = 0
	return back
}

// ExpireOpen lets all that is open be expired.
func (o *Order) ExpireOpen() (back func()) {
	back = o.asNow()
	o.Expired += o.Open
	o.Open = 0
	return back
}

// OpenFilled lets some of what is filled be open again.
func (o *Order) OpenFilled(quantity int) (back func()) {
	back = o.asNow()
	o.Filled -= quantity
	o.Open += quantity
	return back
}

// CancelFilled lets some of what is filled be cancelled.
func (o *Order) CancelFilled(quantity int) (back func()) {
	back = o.asNow()
	o.Filled -= quantity
	o.Cancelled += quantity
	return back
}

// Amend lets another quantity be open, at a price; what was entered is changed by as much.
func (o *Order) Amend(price, quantity int) (back func()) {
	back = o.asNow()
	o.Entered += quantity - o.Open
	o.Open = quantity
	o.Order.Price = price
	return back
}

// Rests tells whether what is not traded of the order waits in the book.
func (o *Order) Rests() bool {
	switch o.Order.Kind {
	case api.Limit, api.Day, api.Post:
		return true
	}
	return false
}

// good tells whether an order that waits at a price, on the other side, is good for one that comes.
func good(comes api.Order, price int) bool {
	switch {
	case comes.Kind == api.Market:
		return true
	case comes.Side == api.Buy:
		return price <= comes.Price
	}
	return price >= comes.Price
}
