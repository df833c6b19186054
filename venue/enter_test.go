package venue_test

import (
	"testing"

	"venue/api"
)

// The first example of the document, as far as its Book.
func TestEnterExampleOfTwoTrades(t *testing.T) {
	v := opened(t, "ΑΒ1")
	in := func(id, owner, side, kind, price, quantity int) api.Order {
		o := order(id, owner, side, kind, price, quantity)
		o.Symbol = "ΑΒ1"
		return o
	}
	rest(t, v, in(1, 1, api.Sell, api.Limit, 100, 5))
	rest(t, v, in(2, 2, api.Sell, api.Day, 101, 5))
	enter(t, v, in(3, 3, api.Buy, api.Limit, 101, 7), api.Report{Filled: 7, First: 1, Count: 2})
	levels, e := v.Book("ΑΒ1", api.Sell)
	if len(levels) != 1 || levels[0] != (api.Level{Price: 101, Quantity: 3, Orders: 1}) || e != api.OK {
		t.Errorf("Book = %v, %d", levels, e)
	}
	counts(t, v, 1, 5, 0, 5, 0, 0)
	counts(t, v, 2, 5, 3, 2, 0, 0)
	counts(t, v, 3, 7, 0, 7, 0, 0)
}

// The second example of the document.
func TestEnterExampleOfOneOwner(t *testing.T) {
	v := opened(t, "A")
	rest(t, v, order(1, 1, api.Sell, api.Limit, 100, 5))
	rest(t, v, order(2, 2, api.Sell, api.Limit, 100, 3))
	enter(t, v, order(4, 1, api.Buy, api.Now, 100, 9), api.Report{Filled: 3, Cancelled: 6, First: 1, Count: 1})
	counts(t, v, 1, 5, 0, 0, 5, 0)
	counts(t, v, 2, 3, 0, 3, 0, 0)
	counts(t, v, 4, 9, 0, 3, 6, 0)
	side(t, v, api.Sell)
	side(t, v, api.Buy)
}

func TestEnterEdgesOfNumbers(t *testing.T) {
	v := opened(t, "A")
	rest(t, v, order(1, 0, api.Buy, api.Limit, 1, 1))
	rest(t, v, order(api.MaxNumber, api.MaxOwner, api.Sell, api.Limit, api.MaxNumber, api.MaxNumber))
	side(t, v, api.Buy, api.Level{Price: 1, Quantity: 1, Orders: 1})
	side(t, v, api.Sell, api.Level{Price: api.MaxNumber, Quantity: api.MaxNumber, Orders: 1})
	good := order(2, 1, api.Buy, api.Limit, 1, 1)
	for _, n := range noNumbers {
		o := good
		o.ID = n
		refuse(t, v, o, api.ErrID)
		o = good
		o.Price = n
		refuse(t, v, o, api.ErrRange)
		o = good
		o.Quantity = n
		refuse(t, v, o, api.ErrRange)
	}
	for _, n := range []int{-1, api.MaxOwner + 1, 1 << 62, -1 << 63} {
		o := good
		o.Owner = n
		refuse(t, v, o, api.ErrRange)
	}
	for _, n := range []int{-1, 2, 1 << 62, -1 << 63} {
		o := good
		o.Side = n
		refuse(t, v, o, api.ErrRange)
	}
	for _, n := range []int{-1, 6, 1 << 62, -1 << 63} {
		o := good
		o.Kind = n
		refuse(t, v, o, api.ErrKind)
	}
	for _, n := range []int{-1, 1, 100, api.MaxNumber, tooLarge} {
		refuse(t, v, order(2, 1, api.Buy, api.Market, n, 1), api.ErrRange)
	}
	rest(t, v, good)
}

// Each fault stands where P4 names it: of two that apply at once, the first is answered.
func TestEnterOrderOfErrors(t *testing.T) {
	faults := []struct {
		spoil func(o *api.Order)
		want  api.Errno
		field string // two faults of one field can't apply at once
	}{
		{func(o *api.Order) { o.ID = 0 }, api.ErrID, "id"},
		{func(o *api.Order) { o.ID = 1 }, api.ErrTaken, "id"},
		{func(o *api.Order) { o.Owner = 10 }, api.ErrRange, "owner"},
		{func(o *api.Order) { o.Side = 2 }, api.ErrRange, "side"},
		{func(o *api.Order) { o.Kind = 6 }, api.ErrKind, "kind"},
		{func(o *api.Order) { o.Quantity = 0 }, api.ErrRange, "quantity"},
		{func(o *api.Order) { o.Price = 0 }, api.ErrRange, "price"},
		{func(o *api.Order) { o.Symbol = "B" }, api.ErrUnknown, "symbol"},
		{func(o *api.Order) { o.Kind = api.Post }, api.ErrCross, "kind"},
		{func(o *api.Order) { o.Kind, o.Quantity = api.Whole, 6 }, api.ErrWhole, "kind"},
	}
	v := opened(t, "A")
	rest(t, v, order(1, 1, api.Sell, api.Limit, 100, 5))
	good := order(2, 2, api.Buy, api.Limit, 100, 1)
	before := picture(v, []string{"A", "B"}, []int{0, 1, 2})
	for i, first := range faults {
		for _, second := range faults[i:] {
			if first.field == second.field && first.want != second.want {
				continue
			}
			o := good
			second.spoil(&o)
			first.spoil(&o)
			refuse(t, v, o, first.want)
		}
	}
	if after := picture(v, []string{"A", "B"}, []int{0, 1, 2}); after != before {
		t.Errorf("refused orders changed\n%sto\n%s", before, after)
	}
	enter(t, v, good, api.Report{Filled: 1, First: 1, Count: 1})
}

func TestEnterLimitOfOrders(t *testing.T) {
	v := opened(t, "A")
	rest(t, v, order(1, 1, api.Sell, api.Limit, 100, 5))
	for id := 2; id <= api.MaxOrders; id++ { // those that are closed count too
		enter(t, v, order(id, 2, api.Buy, api.Market, 0, 1), marketOfOne(id))
	}
	refuse(t, v, order(300, 1, api.Buy, api.Limit, 1, 1), api.ErrLimit)
	refuse(t, v, order(300, 2, api.Buy, api.Whole, 100, 9), api.ErrLimit)
	refuse(t, v, order(100, 1, api.Buy, api.Limit, 1, 1), api.ErrTaken)
	refuse(t, v, order(0, 1, api.Buy, api.Limit, 1, 1), api.ErrID)
	refuse(t, v, order(300, 10, api.Buy, api.Limit, 1, 1), api.ErrRange)
	refuse(t, v, order(300, 1, api.Buy, 6, 1, 1), api.ErrKind)
	refuse(t, v, order(300, 1, api.Buy, api.Limit, 0, 1), api.ErrRange)
	o := order(300, 1, api.Buy, api.Limit, 1, 1)
	o.Symbol = "B"
	refuse(t, v, o, api.ErrUnknown)
	if _, e := v.Status(300); e != api.ErrUnknown {
		t.Errorf("Status(300): error %d behind an Enter that was refused", e)
	}
}

// Of a full venue, a Post order that would cross is one too many first.
func TestEnterLimitBeforeCross(t *testing.T) {
	v := opened(t, "A")
	for id := 1; id <= api.MaxOrders; id++ {
		rest(t, v, order(id, id%10, api.Sell, api.Limit, 100+id, 1))
	}
	refuse(t, v, order(300, 1, api.Buy, api.Post, 500, 1), api.ErrLimit)
	refuse(t, v, order(300, 1, api.Buy, api.Whole, 1, 1), api.ErrLimit)
}

// marketOfOne tells what becomes of market orders of one, numbered from 2 on, where five are open.
func marketOfOne(id int) api.Report {
	if id <= 6 {
		return api.Report{Filled: 1, First: id - 1, Count: 1}
	}
	return api.Report{Cancelled: 1}
}

func TestEnterRanksByPriceThenTime(t *testing.T) {
	v := opened(t, "A")
	rest(t, v, order(1, 1, api.Buy, api.Limit, 98, 1))
	rest(t, v, order(2, 2, api.Buy, api.Limit, 100, 1))
	rest(t, v, order(3, 3, api.Buy, api.Limit, 99, 1))
	rest(t, v, order(4, 4, api.Buy, api.Limit, 100, 1))
	rest(t, v, order(5, 5, api.Buy, api.Limit, 99, 1))
	for i, id := range []int{2, 4, 3, 5, 1} {
		enter(t, v, order(10+i, 9, api.Sell, api.Limit, 1, 1), api.Report{Filled: 1, First: i + 1, Count: 1})
		counts(t, v, id, 1, 0, 1, 0, 0)
	}
	side(t, v, api.Buy)
	rest(t, v, order(21, 1, api.Sell, api.Limit, 102, 1))
	rest(t, v, order(22, 2, api.Sell, api.Limit, 100, 1))
	rest(t, v, order(23, 3, api.Sell, api.Limit, 101, 1))
	rest(t, v, order(24, 4, api.Sell, api.Limit, 100, 1))
	for i, id := range []int{22, 24, 23, 21} {
		enter(t, v, order(30+i, 9, api.Buy, api.Market, 0, 1), api.Report{Filled: 1, First: i + 6, Count: 1})
		counts(t, v, id, 1, 0, 1, 0, 0)
	}
}

// What is traded in part keeps its place ahead of what came later.
func TestEnterPartlyFilledKeepsItsPlace(t *testing.T) {
	v := opened(t, "A")
	rest(t, v, order(1, 1, api.Sell, api.Limit, 100, 5))
	rest(t, v, order(2, 2, api.Sell, api.Limit, 100, 5))
	enter(t, v, order(3, 3, api.Buy, api.Limit, 100, 2), api.Report{Filled: 2, First: 1, Count: 1})
	enter(t, v, order(4, 3, api.Buy, api.Limit, 100, 2), api.Report{Filled: 2, First: 2, Count: 1})
	counts(t, v, 1, 5, 1, 4, 0, 0)
	counts(t, v, 2, 5, 5, 0, 0, 0)
	side(t, v, api.Sell, api.Level{Price: 100, Quantity: 6, Orders: 2})
}

func TestEnterTradesOnlyWhatIsGood(t *testing.T) {
	v := opened(t, "A")
	rest(t, v, order(1, 1, api.Sell, api.Limit, 100, 5))
	rest(t, v, order(2, 2, api.Buy, api.Limit, 99, 5)) // one less is not good
	enter(t, v, order(3, 3, api.Buy, api.Now, 99, 5), api.Report{Cancelled: 5})
	enter(t, v, order(4, 3, api.Sell, api.Now, 100, 5), api.Report{Cancelled: 5})
	enter(t, v, order(5, 3, api.Buy, api.Now, 100, 1), api.Report{Filled: 1, First: 1, Count: 1})
	enter(t, v, order(6, 3, api.Sell, api.Now, 99, 1), api.Report{Filled: 1, First: 2, Count: 1})
}

// What becomes of the rest of each kind, where three of ten are traded, and where nothing is.
func TestEnterKinds(t *testing.T) {
	for _, c := range []struct {
		kind  int
		rests bool
	}{{api.Limit, true}, {api.Day, true}, {api.Now, false}, {api.Market, false}} {
		for _, s := range []int{api.Buy, api.Sell} {
			v := opened(t, "A")
			rest(t, v, order(1, 1, 1-s, api.Limit, 100, 3))
			price := 100
			if c.kind == api.Market {
				price = 0
			}
			want, alone := api.Report{Filled: 3, First: 1, Count: 1}, api.Report{}
			if c.rests {
				want.Rests, alone.Rests = 7, 10
			} else {
				want.Cancelled, alone.Cancelled = 7, 10
			}
			enter(t, v, order(2, 2, s, c.kind, price, 10), want)
			counts(t, v, 2, 10, want.Rests, 3, want.Cancelled, 0)
			enter(t, v, order(3, 3, s, c.kind, price, 10), alone)
			counts(t, v, 3, 10, alone.Rests, 0, alone.Cancelled, 0)
			if c.rests {
				side(t, v, s, api.Level{Price: 100, Quantity: 17, Orders: 2})
			} else {
				side(t, v, s)
			}
		}
	}
}

func TestEnterPost(t *testing.T) {
	v := opened(t, "A")
	rest(t, v, order(1, 1, api.Sell, api.Post, 100, 5))
	refuse(t, v, order(2, 2, api.Buy, api.Post, 100, 1), api.ErrCross)
	refuse(t, v, order(2, 2, api.Buy, api.Post, 101, 1), api.ErrCross)
	refuse(t, v, order(2, 1, api.Buy, api.Post, 100, 1), api.ErrCross) // also of its own owner
	rest(t, v, order(2, 2, api.Buy, api.Post, 99, 1))
	refuse(t, v, order(3, 3, api.Sell, api.Post, 99, 1), api.ErrCross)
	enter(t, v, order(3, 3, api.Buy, api.Limit, 100, 5), api.Report{Filled: 5, First: 1, Count: 1})
}

func TestEnterWhole(t *testing.T) {
	v := opened(t, "A")
	rest(t, v, order(1, 1, api.Sell, api.Limit, 100, 4))
	rest(t, v, order(2, 2, api.Sell, api.Limit, 101, 4))
	rest(t, v, order(3, 3, api.Sell, api.Limit, 102, 4))
	refuse(t, v, order(4, 4, api.Buy, api.Whole, 101, 9), api.ErrWhole)
	refuse(t, v, order(4, 4, api.Buy, api.Whole, 99, 1), api.ErrWhole)
	refuse(t, v, order(4, 2, api.Buy, api.Whole, 102, 9), api.ErrWhole) // its own four do not count
	counts(t, v, 2, 4, 4, 0, 0, 0)
	enter(t, v, order(4, 2, api.Buy, api.Whole, 102, 8), api.Report{Filled: 8, First: 1, Count: 2})
	counts(t, v, 2, 4, 0, 0, 4, 0)
	side(t, v, api.Sell)
	rest(t, v, order(5, 1, api.Buy, api.Limit, 100, 2))
	refuse(t, v, order(6, 2, api.Sell, api.Whole, 100, 3), api.ErrWhole)
	refuse(t, v, order(6, 2, api.Sell, api.Whole, 101, 2), api.ErrWhole)
	enter(t, v, order(6, 2, api.Sell, api.Whole, 100, 2), api.Report{Filled: 2, First: 3, Count: 1})
}

// Its own orders are cancelled only as long as some of the one that comes is left, and only where they are good.
func TestEnterSameOwner(t *testing.T) {
	v := opened(t, "A")
	rest(t, v, order(1, 7, api.Sell, api.Limit, 100, 2))
	rest(t, v, order(2, 2, api.Sell, api.Limit, 100, 2))
	rest(t, v, order(3, 7, api.Sell, api.Limit, 100, 2))
	enter(t, v, order(4, 7, api.Buy, api.Limit, 100, 2), api.Report{Filled: 2, First: 1, Count: 1})
	counts(t, v, 1, 2, 0, 0, 2, 0)
	counts(t, v, 3, 2, 2, 0, 0, 0)
	rest(t, v, order(5, 7, api.Sell, api.Limit, 101, 2))
	enter(t, v, order(6, 7, api.Buy, api.Limit, 100, 2), api.Report{Rests: 2})
	counts(t, v, 3, 2, 0, 0, 2, 0)
	counts(t, v, 5, 2, 2, 0, 0, 0)
	side(t, v, api.Sell, api.Level{Price: 101, Quantity: 2, Orders: 1})
	side(t, v, api.Buy, api.Level{Price: 100, Quantity: 2, Orders: 1})
	// filled in part, then met by its owner: the filled part stands
	enter(t, v, order(7, 8, api.Sell, api.Now, 100, 1), api.Report{Filled: 1, First: 2, Count: 1})
	enter(t, v, order(8, 7, api.Sell, api.Market, 0, 3), api.Report{Cancelled: 3})
	counts(t, v, 6, 2, 0, 1, 1, 0)
}

func TestEnterTakenIDs(t *testing.T) {
	v := opened(t, "A", "B")
	rest(t, v, order(1, 1, api.Buy, api.Limit, 1, 1))
	wantErrno(t, "Cancel", v.Cancel(1), api.OK)
	enter(t, v, order(2, 1, api.Buy, api.Market, 0, 1), api.Report{Cancelled: 1})
	for id := 1; id <= 2; id++ { // also closed ones, and in another symbol
		o := order(id, 1, api.Buy, api.Limit, 1, 1)
		refuse(t, v, o, api.ErrTaken)
		o.Symbol = "B"
		refuse(t, v, o, api.ErrTaken)
	}
}

// Trades are numbered over all symbols; books are apart.
func TestEnterSymbolsApart(t *testing.T) {
	v := opened(t, "A", "B")
	rest(t, v, order(1, 1, api.Sell, api.Limit, 100, 1))
	o := order(2, 2, api.Buy, api.Limit, 100, 1)
	o.Symbol = "B"
	rest(t, v, o)
	enter(t, v, order(3, 3, api.Buy, api.Limit, 100, 1), api.Report{Filled: 1, First: 1, Count: 1})
	o = order(4, 3, api.Sell, api.Limit, 100, 1)
	o.Symbol = "B"
	enter(t, v, o, api.Report{Filled: 1, First: 2, Count: 1})
}
