package book

import (
	"slices"
	"testing"

	"venue/api"
)

func resting(b *Book, id, side, price, quantity int) *Order {
	o := NewOrder(api.Order{ID: id, Owner: id % 10, Symbol: b.Symbol, Side: side, Price: price, Quantity: quantity})
	b.Rest(o)
	return o
}

// emptied takes the orders of the side that a Market order meets out, the first by rank each time.
func emptied(b *Book, side int) []int {
	var ids []int
	comes := api.Order{Side: side, Kind: api.Market}
	for o := b.FirstGood(comes); o != nil; o = b.FirstGood(comes) {
		ids = append(ids, o.Order.ID)
		b.Leave(o)
	}
	return ids
}

func TestRanks(t *testing.T) {
	b := New("A")
	for i, price := range []int{5, 7, 5, 6, 7, 5, 4} {
		resting(b, i+1, api.Buy, price, 1)
		resting(b, i+11, api.Sell, price+100, 1)
	}
	if got, want := emptied(b, api.Sell), []int{2, 5, 4, 1, 3, 6, 7}; !slices.Equal(got, want) {
		t.Errorf("those that buy: %v, want %v", got, want)
	}
	if got, want := emptied(b, api.Buy), []int{17, 11, 13, 16, 14, 12, 15}; !slices.Equal(got, want) {
		t.Errorf("those that sell: %v, want %v", got, want)
	}
}

// Leaving from anywhere in the heap, and coming back behind the others, leaves the rest ranked.
func TestLeaveAndRestAgain(t *testing.T) {
	const orders = 12
	for gone := range orders {
		b := New("A")
		var all []*Order
		for id := range orders {
			all = append(all, resting(b, id, api.Sell, 100+id*5%4, 1))
		}
		b.Leave(all[gone])
		b.Rest(all[gone])
		want := slices.Clone(all)
		want = append(slices.Delete(want, gone, gone+1), all[gone])
		slices.SortStableFunc(want, func(x, y *Order) int { return x.Order.Price - y.Order.Price })
		for i, id := range emptied(b, api.Buy) {
			if id != want[i].Order.ID {
				t.Errorf("order %d went and came back: at rank %d is order %d, want %d", gone, i, id, want[i].Order.ID)
			}
		}
	}
}

func TestFirstGood(t *testing.T) {
	b := New("A")
	if b.FirstGood(api.Order{Kind: api.Market}) != nil {
		t.Error("an order is good in an empty book")
	}
	resting(b, 1, api.Sell, 100, 1)
	resting(b, 2, api.Buy, 90, 1)
	for _, c := range []struct {
		side, kind, price int
		want              bool
	}{
		{api.Buy, api.Limit, 99, false}, {api.Buy, api.Limit, 100, true}, {api.Buy, api.Limit, 101, true}, {api.Buy, api.Market, 0, true},
		{api.Sell, api.Limit, 91, false}, {api.Sell, api.Limit, 90, true}, {api.Sell, api.Limit, 89, true}, {api.Sell, api.Market, 0, true},
	} {
		if got := b.FirstGood(api.Order{Side: c.side, Kind: c.kind, Price: c.price}) != nil; got != c.want {
			t.Errorf("side %d, kind %d, price %d: good %t, want %t", c.side, c.kind, c.price, got, c.want)
		}
	}
}

func TestSupply(t *testing.T) {
	b := New("A")
	resting(b, 1, api.Sell, 100, 3)
	resting(b, 2, api.Sell, 101, 4)
	resting(b, 3, api.Sell, 102, 5)
	resting(b, 4, api.Buy, 90, 9)
	for _, c := range []struct{ owner, price, want int }{
		{9, 99, 0}, {9, 100, 3}, {9, 101, 7}, {9, 200, 12}, {2, 200, 8}, {3, 101, 7},
	} {
		if got := b.Supply(api.Order{Owner: c.owner, Side: api.Buy, Price: c.price}); got != c.want {
			t.Errorf("owner %d, price %d: %d, want %d", c.owner, c.price, got, c.want)
		}
	}
}

// Whatever becomes of an order's quantity, the parts are what was entered; put back, last first, all is as it was.
func TestOrderCounts(t *testing.T) {
	o := NewOrder(api.Order{ID: 1, Price: 5, Quantity: 20})
	var was []api.Status
	var backs []func()
	for i, c := range []struct {
		act   func() func()
		price int
		want  api.Status
	}{
		{func() func() { return o.Fill(9) }, 5, api.Status{Entered: 20, Open: 11, Filled: 9}},
		{o.CancelOpen, 5, api.Status{Entered: 20, Filled: 9, Cancelled: 11}},
		{func() func() { return o.OpenFilled(4) }, 5, api.Status{Entered: 20, Open: 4, Filled: 5, Cancelled: 11}},
		{func() func() { return o.CancelFilled(2) }, 5, api.Status{Entered: 20, Open: 4, Filled: 3, Cancelled: 13}},
		{o.ExpireOpen, 5, api.Status{Entered: 20, Filled: 3, Cancelled: 13, Expired: 4}},
		{func() func() { return o.OpenFilled(3) }, 5, api.Status{Entered: 20, Open: 3, Cancelled: 13, Expired: 4}},
		{func() func() { return o.Amend(6, 10) }, 6, api.Status{Entered: 27, Open: 10, Cancelled: 13, Expired: 4}},
		{func() func() { return o.Amend(7, 1) }, 7, api.Status{Entered: 18, Open: 1, Cancelled: 13, Expired: 4}},
		{o.ExpireOpen, 7, api.Status{Entered: 18, Cancelled: 13, Expired: 5}},
	} {
		was = append(was, o.Status)
		backs = append(backs, c.act())
		c.want.Order = api.Order{ID: 1, Price: c.price, Quantity: 20}
		if o.Status != c.want {
			t.Errorf("behind act %d: %+v, want %+v", i, o.Status, c.want)
		}
	}
	for i, back := range slices.Backward(backs) {
		if back(); o.Status != was[i] {
			t.Errorf("act %d put back: %+v, want %+v", i, o.Status, was[i])
		}
	}
}

// Leaving from anywhere, and coming back, put back: each stands where it stood, and the next behind all of them.
func TestPutBack(t *testing.T) {
	const orders = 12
	for gone := range orders {
		b := New("A")
		var all []*Order
		for id := range orders {
			all = append(all, resting(b, id, api.Buy, 100+id*5%4, 1))
		}
		want := emptied(b, api.Sell)
		for _, o := range all {
			b.push(o)
		}
		left := b.Leave(all[gone])
		raised := all[gone].Amend(102, 1)
		rested := b.Rest(all[gone])
		rested()
		raised()
		left()
		resting(b, 99, api.Buy, all[gone].Order.Price, 1)
		last := slices.IndexFunc(want, func(id int) bool { return all[id].Order.Price < all[gone].Order.Price })
		if last < 0 {
			last = len(want)
		}
		want = slices.Insert(want, last, 99)
		if got := emptied(b, api.Sell); !slices.Equal(got, want) {
			t.Errorf("order %d went, came back, and was put back: %v, want %v", gone, got, want)
		}
	}
}
