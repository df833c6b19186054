package venue_test

import (
	"slices"
	"testing"

	"venue/api"
	"venue/venue"
)

func TestStatus(t *testing.T) {
	v := opened(t, "Α")
	asked := api.Order{ID: 7, Owner: 3, Symbol: "Α", Side: api.Sell, Kind: api.Day, Price: 12, Quantity: 34}
	rest(t, v, asked)
	if s, e := v.Status(7); s != (api.Status{Order: asked, Entered: 34, Open: 34}) || e != api.OK {
		t.Errorf("Status(7) = %+v, %d", s, e)
	}
	replace(t, v, 7, 13, 40, api.Report{Rests: 40}, api.OK)
	asked.Price = 13
	if s, e := v.Status(7); s != (api.Status{Order: asked, Entered: 40, Open: 40}) || e != api.OK {
		t.Errorf("Status(7) = %+v, %d", s, e)
	}
	market := api.Order{ID: 8, Symbol: "Α", Kind: api.Market, Quantity: 41}
	enter(t, v, market, api.Report{Filled: 40, Cancelled: 1, First: 1, Count: 1})
	if s, e := v.Status(8); s != (api.Status{Order: market, Entered: 41, Filled: 40, Cancelled: 1}) || e != api.OK {
		t.Errorf("Status(8) = %+v, %d", s, e)
	}
	for _, id := range append([]int{1, 9, api.MaxNumber}, noNumbers...) {
		if s, e := v.Status(id); s != (api.Status{}) || e != api.ErrUnknown {
			t.Errorf("Status(%d) = %+v, %d", id, s, e)
		}
	}
}

func TestBook(t *testing.T) {
	v := opened(t, "A", "B")
	for i, price := range []int{5, 3, 9, 5, 3, 5, 1, api.MaxNumber} {
		rest(t, v, order(i+1, 1, api.Sell, api.Limit, 1000000-price+1, i+1))
		o := order(i+101, 1, api.Buy, api.Limit, price, i+1)
		o.Symbol = "B"
		rest(t, v, o)
	}
	side(t, v, api.Sell, api.Level{Price: 1, Quantity: 8, Orders: 1}, api.Level{Price: 999992, Quantity: 3, Orders: 1},
		api.Level{Price: 999996, Quantity: 11, Orders: 3}, api.Level{Price: 999998, Quantity: 7, Orders: 2}, api.Level{Price: 1000000, Quantity: 7, Orders: 1})
	side(t, v, api.Buy)
	want := []api.Level{{Price: api.MaxNumber, Quantity: 8, Orders: 1}, {Price: 9, Quantity: 3, Orders: 1},
		{Price: 5, Quantity: 11, Orders: 3}, {Price: 3, Quantity: 7, Orders: 2}, {Price: 1, Quantity: 7, Orders: 1}}
	if got, e := v.Book("B", api.Buy); !slices.Equal(got, want) || e != api.OK {
		t.Errorf("Book(B, Buy) = %v, %d, want %v", got, e, want)
	}
	for _, c := range []struct {
		symbol string
		side   int
		want   api.Errno
	}{
		{"C", api.Buy, api.ErrUnknown}, {"", api.Sell, api.ErrUnknown}, {"a", api.Buy, api.ErrUnknown}, {"\xff", api.Buy, api.ErrUnknown},
		{"C", 2, api.ErrUnknown}, // both apply: the first is told
		{"A", 2, api.ErrRange}, {"A", -1, api.ErrRange}, {"A", -1 << 63, api.ErrRange},
	} {
		if got, e := v.Book(c.symbol, c.side); got != nil || e != c.want {
			t.Errorf("Book(%q, %d) = %v, %d, want error %d", c.symbol, c.side, got, e, c.want)
		}
	}
}

// More than one order may have more open together than an order may have.
func TestBookSumsAboveMaxNumber(t *testing.T) {
	v := opened(t, "A")
	for id := 1; id <= api.MaxOrders-1; id++ {
		rest(t, v, order(id, 1, api.Buy, api.Limit, 1, api.MaxNumber))
	}
	side(t, v, api.Buy, api.Level{Price: 1, Quantity: 199 * api.MaxNumber, Orders: 199})
	enter(t, v, order(200, 2, api.Sell, api.Whole, 1, api.MaxNumber), api.Report{Filled: api.MaxNumber, First: 1, Count: 1})
}

func TestVenuesKnowNothingOfOneAnother(t *testing.T) {
	v, w := venue.New(), venue.New()
	wantErrno(t, "List", v.List("A"), api.OK)
	rest(t, v, order(1, 1, api.Sell, api.Limit, 100, 5))
	refuse(t, w, order(1, 1, api.Buy, api.Limit, 100, 5), api.ErrUnknown)
	wantErrno(t, "Cancel in the other", w.Cancel(1), api.ErrUnknown)
	wantErrno(t, "List in the other", w.List("A"), api.OK)
	rest(t, w, order(1, 2, api.Buy, api.Limit, 100, 5))
	enter(t, v, order(2, 2, api.Buy, api.Limit, 100, 5), api.Report{Filled: 5, First: 1, Count: 1})
	enter(t, w, order(2, 1, api.Sell, api.Limit, 100, 3), api.Report{Filled: 3, First: 1, Count: 1})
	counts(t, v, 1, 5, 0, 5, 0, 0)
	counts(t, w, 1, 5, 2, 3, 0, 0)
}

func TestQuestionsChangeNothing(t *testing.T) {
	v, w := opened(t, "A"), opened(t, "A")
	for _, asked := range []bool{true, false} {
		u := v
		if !asked {
			u = w
		}
		for id := 1; id <= 30; id++ {
			rest(t, u, order(id, id%10, api.Sell, api.Limit, 100+id*7%5, id))
			if asked {
				if first, second := picture(u, []string{"A"}, []int{id}), picture(u, []string{"A"}, []int{id}); first != second {
					t.Errorf("asked twice:\n%s\n%s", first, second)
				}
			}
		}
	}
	ids := []int{}
	for id := 101; id <= 150; id++ { // sold out one by one, both do the same
		o := order(id, 0, api.Buy, api.Market, 0, 9)
		picture(v, []string{"A"}, ids)
		r, _ := v.Enter(o)
		if s, _ := w.Enter(o); r != s {
			t.Errorf("Enter(%+v) = %+v where it was asked, %+v where not", o, r, s)
		}
		ids = append(ids, id)
	}
}

// A list that came out is the caller's: also its spare room is of no other list and not of the venue.
func TestListsAreNewMemory(t *testing.T) {
	v := opened(t, "A")
	for id := 1; id <= 9; id++ {
		rest(t, v, order(id, 1, api.Buy, api.Limit, id, 1))
		rest(t, v, order(id+100, 1, api.Sell, api.Limit, id+100, 1))
	}
	lists := [][]api.Level{}
	for _, side := range []int{api.Buy, api.Sell, api.Buy, api.Sell} {
		levels, _ := v.Book("A", side)
		lists = append(lists, levels)
	}
	before := picture(v, []string{"A"}, nil)
	for i, levels := range lists {
		levels = levels[:cap(levels)]
		for k := range levels {
			levels[k] = api.Level{Price: -i - 1}
		}
	}
	for i, levels := range lists {
		for _, level := range levels[:cap(levels)] {
			if level.Price != -i-1 {
				t.Errorf("list %d shares memory with list %d", i, -level.Price-1)
			}
		}
	}
	if after := picture(v, []string{"A"}, nil); after != before {
		t.Errorf("a caller changed\n%sto\n%s", before, after)
	}
}
