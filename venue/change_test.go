package venue_test

import (
	"testing"

	"venue/api"
)

func TestCancel(t *testing.T) {
	v := opened(t, "A")
	rest(t, v, order(1, 1, api.Sell, api.Limit, 100, 5))
	rest(t, v, order(2, 2, api.Sell, api.Day, 100, 5))
	rest(t, v, order(3, 3, api.Sell, api.Post, 99, 5))
	enter(t, v, order(4, 4, api.Buy, api.Limit, 100, 7), api.Report{Filled: 7, First: 1, Count: 2})
	wantErrno(t, "Cancel", v.Cancel(1), api.OK)
	counts(t, v, 1, 5, 0, 2, 3, 0)
	side(t, v, api.Sell, api.Level{Price: 100, Quantity: 5, Orders: 1})
	wantErrno(t, "Cancel of one that is cancelled", v.Cancel(1), api.ErrClosed)
	wantErrno(t, "Cancel of one that is filled", v.Cancel(3), api.ErrClosed)
	wantErrno(t, "Cancel of one that never rested", v.Cancel(4), api.ErrClosed)
	for _, id := range append([]int{5, api.MaxNumber}, noNumbers...) {
		wantErrno(t, "Cancel of none", v.Cancel(id), api.ErrUnknown)
	}
	counts(t, v, 1, 5, 0, 2, 3, 0)
	counts(t, v, 2, 5, 5, 0, 0, 0)
	enter(t, v, order(5, 5, api.Buy, api.Limit, 100, 7), api.Report{Filled: 5, Rests: 2, First: 3, Count: 1})
}

// Whichever order is cancelled, the others keep their ranks.
func TestCancelKeepsRanks(t *testing.T) {
	const orders = 9
	for gone := 1; gone <= orders; gone++ {
		v := opened(t, "A")
		for id := 1; id <= orders; id++ {
			rest(t, v, order(id, 1, api.Buy, api.Limit, 100+id*5%3, 1))
		}
		wantErrno(t, "Cancel", v.Cancel(gone), api.OK)
		trades := 0
		for _, id := range []int{1, 4, 7, 2, 5, 8, 3, 6, 9} {
			if id == gone {
				continue
			}
			trades++
			enter(t, v, order(20+trades, 2, api.Sell, api.Market, 0, 1), api.Report{Filled: 1, First: trades, Count: 1})
			counts(t, v, id, 1, 0, 1, 0, 0)
		}
		side(t, v, api.Buy)
	}
}

func TestReplaceKeepsItsPlace(t *testing.T) {
	for _, c := range []struct {
		price, quantity int
		first           int // who is traded with first then
	}{
		{100, 5, 1}, {100, 4, 1}, {100, 1, 1}, // it stays: as it was, or less
		{100, 6, 2}, {99, 5, 2}, {99, 1, 2}, // more, or another price: behind
		{101, 6, 1}, {101, 5, 1}, {101, 1, 1}, // a better price is ahead all the same
	} {
		v := opened(t, "A")
		rest(t, v, order(1, 1, api.Buy, api.Limit, 100, 5))
		rest(t, v, order(2, 2, api.Buy, api.Limit, 100, 5))
		replace(t, v, 1, c.price, c.quantity, api.Report{Rests: c.quantity}, api.OK)
		counts(t, v, 1, c.quantity, c.quantity, 0, 0, 0)
		enter(t, v, order(3, 3, api.Sell, api.Market, 0, 1), api.Report{Filled: 1, First: 1, Count: 1})
		if s, _ := v.Status(c.first); s.Filled != 1 {
			t.Errorf("Replace(1, %d, %d): the first is not order %d", c.price, c.quantity, c.first)
		}
	}
}

// To go away from a price and back is to lose the place.
func TestReplaceThereAndBack(t *testing.T) {
	v := opened(t, "A")
	rest(t, v, order(1, 1, api.Sell, api.Limit, 100, 5))
	rest(t, v, order(2, 2, api.Sell, api.Limit, 100, 5))
	replace(t, v, 1, 101, 5, api.Report{Rests: 5}, api.OK)
	replace(t, v, 1, 100, 5, api.Report{Rests: 5}, api.OK)
	enter(t, v, order(3, 3, api.Buy, api.Limit, 100, 5), api.Report{Filled: 5, First: 1, Count: 1})
	counts(t, v, 1, 5, 5, 0, 0, 0)
	counts(t, v, 2, 5, 0, 5, 0, 0)
}

// What counts as greater is what was open, not what was entered.
func TestReplaceOfOnePartlyFilled(t *testing.T) {
	v := opened(t, "A")
	rest(t, v, order(1, 1, api.Buy, api.Limit, 100, 9))
	rest(t, v, order(2, 2, api.Buy, api.Limit, 100, 9))
	enter(t, v, order(3, 3, api.Sell, api.Now, 100, 5), api.Report{Filled: 5, First: 1, Count: 1})
	replace(t, v, 1, 100, 3, api.Report{Rests: 3}, api.OK)
	counts(t, v, 1, 8, 3, 5, 0, 0)
	enter(t, v, order(4, 3, api.Sell, api.Now, 100, 1), api.Report{Filled: 1, First: 2, Count: 1})
	counts(t, v, 1, 8, 2, 6, 0, 0)
	replace(t, v, 1, 100, 3, api.Report{Rests: 3}, api.OK) // more than the two: behind
	counts(t, v, 1, 9, 3, 6, 0, 0)
	enter(t, v, order(5, 3, api.Sell, api.Now, 100, 1), api.Report{Filled: 1, First: 3, Count: 1})
	counts(t, v, 1, 9, 3, 6, 0, 0)
	counts(t, v, 2, 9, 8, 1, 0, 0)
}

func TestReplaceTrades(t *testing.T) {
	v := opened(t, "A")
	rest(t, v, order(1, 1, api.Buy, api.Limit, 99, 4))
	enter(t, v, order(2, 2, api.Sell, api.Now, 99, 1), api.Report{Filled: 1, First: 1, Count: 1})
	rest(t, v, order(3, 2, api.Sell, api.Limit, 100, 2))
	rest(t, v, order(4, 1, api.Sell, api.Limit, 101, 2)) // of the same owner as order 1
	rest(t, v, order(5, 3, api.Sell, api.Limit, 102, 2))
	// the report is of the six alone, not of what was filled before
	replace(t, v, 1, 102, 6, api.Report{Filled: 4, Rests: 2, First: 2, Count: 2}, api.OK)
	counts(t, v, 1, 7, 2, 5, 0, 0)
	counts(t, v, 4, 2, 0, 0, 2, 0)
	side(t, v, api.Sell)
	side(t, v, api.Buy, api.Level{Price: 102, Quantity: 2, Orders: 1})
	s, e := v.Status(1)
	if want := order(1, 1, api.Buy, api.Limit, 102, 4); s.Order != want || e != api.OK {
		t.Errorf("Status(1) = %+v, %d, want the order %+v", s, e, want)
	}
	rest(t, v, order(6, 4, api.Sell, api.Limit, 103, 9))
	replace(t, v, 6, 102, 2, api.Report{Filled: 2, First: 4, Count: 1}, api.OK)
	counts(t, v, 6, 2, 0, 2, 0, 0)
	side(t, v, api.Sell)
	side(t, v, api.Buy)
}

func TestReplaceOfPostTrades(t *testing.T) {
	v := opened(t, "A")
	rest(t, v, order(1, 1, api.Buy, api.Post, 90, 2))
	rest(t, v, order(2, 2, api.Sell, api.Day, 95, 1))
	replace(t, v, 1, 95, 2, api.Report{Filled: 1, Rests: 1, First: 1, Count: 1}, api.OK)
	if s, _ := v.Status(1); s.Order.Kind != api.Post {
		t.Errorf("Status(1) = %+v, want a Post order still", s)
	}
	replace(t, v, 1, 96, 1, api.Report{Rests: 1}, api.OK)
}

func TestReplaceEdgesAndErrors(t *testing.T) {
	v := opened(t, "A")
	rest(t, v, order(1, 1, api.Buy, api.Limit, 100, 5))
	replace(t, v, 1, api.MaxNumber, api.MaxNumber, api.Report{Rests: api.MaxNumber}, api.OK)
	replace(t, v, 1, 1, 1, api.Report{Rests: 1}, api.OK)
	enter(t, v, order(2, 2, api.Sell, api.Market, 0, 2), api.Report{Filled: 1, Cancelled: 1, First: 1, Count: 1})
	rest(t, v, order(3, 3, api.Buy, api.Limit, 100, 5))
	wantErrno(t, "Cancel", v.Cancel(3), api.OK)
	rest(t, v, order(4, 4, api.Buy, api.Limit, 100, 5))
	before := picture(v, []string{"A"}, []int{1, 2, 3, 4, 5})
	for _, n := range noNumbers {
		replace(t, v, 4, n, 5, api.Report{}, api.ErrRange)
		replace(t, v, 4, 100, n, api.Report{}, api.ErrRange)
		replace(t, v, 4, n, n, api.Report{}, api.ErrRange)
		replace(t, v, n, 100, 5, api.Report{}, api.ErrUnknown)
		replace(t, v, 5, n, n, api.Report{}, api.ErrUnknown) // both apply: the first is told
		for id := 1; id <= 3; id++ {
			replace(t, v, id, n, n, api.Report{}, api.ErrClosed)
			replace(t, v, id, 100, 5, api.Report{}, api.ErrClosed)
		}
	}
	if after := picture(v, []string{"A"}, []int{1, 2, 3, 4, 5}); after != before {
		t.Errorf("refused replacements changed\n%sto\n%s", before, after)
	}
}
