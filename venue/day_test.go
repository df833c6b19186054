package venue_test

import (
	"testing"

	"venue/api"
	"venue/venue"
)

func ended(day int) told { return told{api.Close, api.Trade{Day: day}} }

// The first example of the document as far as its first Bust.
func TestCloseExample(t *testing.T) {
	v := exampleOfTwoTrades(t)
	v.Close()
	counts(t, v, 2, 5, 0, 2, 0, 3)
	side(t, v, api.Sell)
	wantErrno(t, "Bust", v.Bust(1, true), api.ErrDay)
	hold(t, v, of(1, 100, 5, 3, 1, 1), of(2, 101, 2, 3, 2, 1))
	tape(t, v, told{api.Print, of(1, 100, 5, 3, 1, 1)}, told{api.Print, of(2, 101, 2, 3, 2, 1)}, ended(1))
}

// Of all kinds that rest, on both sides and in all symbols, Day orders alone expire.
func TestCloseExpiresDayOrders(t *testing.T) {
	symbols := []string{"A", "Α", "B"}
	v := opened(t, symbols...)
	id := 0
	for _, symbol := range symbols {
		for _, s := range []int{api.Buy, api.Sell} {
			for _, kind := range []int{api.Limit, api.Day, api.Post, api.Day} {
				id++
				o := order(id, 1, s, kind, 100+10*s, id)
				o.Symbol = symbol
				rest(t, v, o)
			}
		}
	}
	for range 2 { // the second Close finds none any more
		v.Close()
		for id := 1; id <= 24; id++ {
			if id%2 == 0 {
				counts(t, v, id, id, 0, 0, 0, id)
			} else {
				counts(t, v, id, id, id, 0, 0, 0)
			}
		}
		for i, symbol := range symbols {
			for s := range 2 {
				first := 8*i + 4*s + 1
				levels, e := v.Book(symbol, s)
				if len(levels) != 1 || levels[0] != (api.Level{Price: 100 + 10*s, Quantity: 2*first + 2, Orders: 2}) || e != api.OK {
					t.Errorf("Book(%s, %d) = %v, %d", symbol, s, levels, e)
				}
			}
		}
	}
	tape(t, v, ended(1), ended(2))
}

// What is expired is what was open; what was filled and cancelled stays so, and nothing can be done with it.
func TestCloseOfPartlyFilledOrders(t *testing.T) {
	v := opened(t, "A")
	rest(t, v, order(1, 1, api.Buy, api.Day, 100, 9))
	enter(t, v, order(2, 2, api.Sell, api.Now, 100, 4), api.Report{Filled: 4, First: 1, Count: 1})
	replace(t, v, 1, 101, 3, api.Report{Rests: 3}, api.OK)
	rest(t, v, order(3, 3, api.Buy, api.Day, 100, 9))
	wantErrno(t, "Cancel", v.Cancel(3), api.OK)
	enter(t, v, order(4, 4, api.Sell, api.Day, 102, 2), api.Report{Rests: 2})
	enter(t, v, order(5, 5, api.Buy, api.Day, 102, 2), api.Report{Filled: 2, First: 2, Count: 1})
	v.Close()
	counts(t, v, 1, 7, 0, 4, 0, 3)
	counts(t, v, 3, 9, 0, 0, 9, 0)
	counts(t, v, 4, 2, 0, 2, 0, 0)
	counts(t, v, 5, 2, 0, 2, 0, 0)
	wantErrno(t, "Cancel of one that is expired", v.Cancel(1), api.ErrClosed)
	replace(t, v, 1, 100, 5, api.Report{}, api.ErrClosed)
	refuse(t, v, order(1, 1, api.Buy, api.Day, 100, 5), api.ErrTaken)
	enter(t, v, order(6, 6, api.Sell, api.Market, 0, 5), api.Report{Cancelled: 5})
}

// Whichever orders expire, the others keep their ranks.
func TestCloseKeepsRanks(t *testing.T) {
	const orders = 8
	for days := range 1 << orders {
		v := opened(t, "A")
		for id := 1; id <= orders; id++ {
			kind := api.Limit
			if days>>(id-1)&1 == 1 {
				kind = api.Day
			}
			rest(t, v, order(id, 1, api.Sell, kind, 100+id%2, 1))
		}
		v.Close()
		trades := 0
		for _, id := range []int{2, 4, 6, 8, 1, 3, 5, 7} {
			if days>>(id-1)&1 == 1 {
				counts(t, v, id, 1, 0, 0, 0, 1)
				continue
			}
			trades++
			enter(t, v, order(10+trades, 2, api.Buy, api.Market, 0, 1), api.Report{Filled: 1, First: trades, Count: 1})
			counts(t, v, id, 1, 0, 1, 0, 0)
		}
		side(t, v, api.Sell)
	}
}

// Trades have the day that they came on; what was done on a day that has ended can't be put right any more.
func TestDaysAreNumbered(t *testing.T) {
	v := opened(t, "A")
	rest(t, v, order(1, 1, api.Sell, api.Limit, 100, 9))
	for day := 1; day <= 4; day++ {
		enter(t, v, order(10+day, 2, api.Buy, api.Now, 100, day), api.Report{Filled: min(day, 9-day*(day-1)/2), Cancelled: max(0, day*(day+1)/2-9), First: day, Count: 1})
		for earlier := 1; earlier < day; earlier++ {
			wantErrno(t, "Bust", v.Bust(earlier, true), api.ErrDay)
			wantErrno(t, "Correct", v.Correct(earlier, 100), api.ErrDay)
		}
		wantErrno(t, "Correct", v.Correct(day, 100+day), api.OK)
		v.Close()
	}
	hold(t, v, of(1, 101, 1, 11, 1, 1), of(2, 102, 2, 12, 1, 2), of(3, 103, 3, 13, 1, 3), of(4, 104, 3, 14, 1, 4))
	tape(t, v,
		told{api.Print, of(1, 100, 1, 11, 1, 1)}, told{api.Correct, of(1, 101, 1, 11, 1, 1)}, ended(1),
		told{api.Print, of(2, 100, 2, 12, 1, 2)}, told{api.Correct, of(2, 102, 2, 12, 1, 2)}, ended(2),
		told{api.Print, of(3, 100, 3, 13, 1, 3)}, told{api.Correct, of(3, 103, 3, 13, 1, 3)}, ended(3),
		told{api.Print, of(4, 100, 3, 14, 1, 4)}, told{api.Correct, of(4, 104, 3, 14, 1, 4)}, ended(4))
}

// An order that waits from day to day has trades of several days; only that of this day comes again.
func TestBustOfThisDayAlone(t *testing.T) {
	v := opened(t, "A")
	rest(t, v, order(1, 1, api.Buy, api.Limit, 100, 9))
	enter(t, v, order(2, 2, api.Sell, api.Now, 100, 2), api.Report{Filled: 2, First: 1, Count: 1})
	v.Close()
	enter(t, v, order(3, 3, api.Sell, api.Now, 100, 3), api.Report{Filled: 3, First: 2, Count: 1})
	wantErrno(t, "Bust", v.Bust(1, true), api.ErrDay)
	bust(t, v, 2, true)
	counts(t, v, 1, 9, 7, 2, 0, 0)
	hold(t, v, of(1, 100, 2, 1, 2, 1))
}

// A Day order that comes again expires with the day, as any other.
func TestCloseOfOneThatCameAgain(t *testing.T) {
	v := opened(t, "A")
	rest(t, v, order(1, 1, api.Sell, api.Day, 100, 5))
	enter(t, v, order(2, 2, api.Buy, api.Now, 100, 5), api.Report{Filled: 5, First: 1, Count: 1})
	bust(t, v, 1, true)
	v.Close()
	counts(t, v, 1, 5, 0, 0, 0, 5)
	side(t, v, api.Sell)
	wantErrno(t, "Bust", v.Bust(1, true), api.ErrClosed)
}

func TestCloseOfAnEmptyVenue(t *testing.T) {
	v := venue.New()
	v.Close()
	v.Close()
	tape(t, v, ended(1), ended(2))
	hold(t, v)
}
