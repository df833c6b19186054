package venue_test

import (
	"testing"

	"venue/api"
	"venue/venue"
)

// exampleOfTwoTrades does the first example of the document as far as its trades.
func exampleOfTwoTrades(t *testing.T) *venue.Venue {
	t.Helper()
	v := opened(t, "A")
	rest(t, v, order(1, 1, api.Sell, api.Limit, 100, 5))
	rest(t, v, order(2, 2, api.Sell, api.Day, 101, 5))
	enter(t, v, order(3, 3, api.Buy, api.Limit, 101, 7), api.Report{Filled: 7, First: 1, Count: 2})
	hold(t, v, of(1, 100, 5, 3, 1, 1), of(2, 101, 2, 3, 2, 1))
	return v
}

func bust(t *testing.T, v *venue.Venue, trade int, again bool) {
	t.Helper()
	wantErrno(t, "Bust", v.Bust(trade, again), api.OK)
}

// The first example of the document, without its Close and its Undo.
func TestBustExample(t *testing.T) {
	v := exampleOfTwoTrades(t)
	bust(t, v, 1, true)
	counts(t, v, 3, 7, 0, 2, 5, 0)
	counts(t, v, 1, 5, 5, 0, 0, 0)
	counts(t, v, 2, 5, 3, 2, 0, 0)
	side(t, v, api.Sell, api.Level{Price: 100, Quantity: 5, Orders: 1}, api.Level{Price: 101, Quantity: 3, Orders: 1})
	side(t, v, api.Buy)
	hold(t, v, of(2, 101, 2, 3, 2, 1))
	tape(t, v, told{api.Print, of(1, 100, 5, 3, 1, 1)}, told{api.Print, of(2, 101, 2, 3, 2, 1)}, told{api.Bust, of(1, 100, 5, 3, 1, 1)})
}

func TestBustForGood(t *testing.T) {
	v := exampleOfTwoTrades(t)
	bust(t, v, 2, false)
	bust(t, v, 1, false)
	counts(t, v, 1, 5, 0, 0, 5, 0)
	counts(t, v, 2, 5, 3, 0, 2, 0)
	counts(t, v, 3, 7, 0, 0, 7, 0)
	side(t, v, api.Sell, api.Level{Price: 101, Quantity: 3, Orders: 1})
	side(t, v, api.Buy)
	hold(t, v)
	// the numbers go on behind those that hold no longer
	enter(t, v, order(4, 4, api.Buy, api.Now, 101, 1), api.Report{Filled: 1, First: 3, Count: 1})
	hold(t, v, of(3, 101, 1, 4, 2, 1))
}

// One that comes and one that waits, of each kind, in an else empty book: which of them comes again.
func TestBustKinds(t *testing.T) {
	for _, c := range []struct {
		kind    int
		reopens bool
	}{{api.Limit, true}, {api.Day, true}, {api.Now, false}, {api.Whole, false}, {api.Market, false}} {
		for _, comes := range []int{api.Buy, api.Sell} {
			for _, again := range []bool{true, false} {
				v := opened(t, "A")
				rest(t, v, order(1, 1, 1-comes, api.Limit, 100, 5))
				price := 100
				if c.kind == api.Market {
					price = 0
				}
				enter(t, v, order(2, 2, comes, c.kind, price, 5), api.Report{Filled: 5, First: 1, Count: 1})
				bust(t, v, 1, again)
				first, second := 1, 2 // who is looked at first: the one that buys
				if comes == api.Buy {
					first, second = 2, 1
				}
				open := map[int]int{}
				for _, id := range []int{first, second} {
					reopens := again && (id == 1 || c.reopens)
					if reopens && open[first] == 0 { // else the one that buys is good for the one that sells
						open[id] = 5
					}
					counts(t, v, id, 5, open[id], 0, 5-open[id], 0)
				}
				hold(t, v)
			}
		}
	}
}

func TestBustOfWaitingKinds(t *testing.T) {
	for _, kind := range []int{api.Limit, api.Day, api.Post} {
		for _, waits := range []int{api.Buy, api.Sell} {
			v := opened(t, "A")
			rest(t, v, order(1, 1, waits, kind, 100, 5))
			enter(t, v, order(2, 2, 1-waits, api.Now, 100, 3), api.Report{Filled: 3, First: 1, Count: 1})
			bust(t, v, 1, true)
			counts(t, v, 1, 5, 5, 0, 0, 0)
			counts(t, v, 2, 3, 0, 0, 3, 0)
			side(t, v, waits, api.Level{Price: 100, Quantity: 5, Orders: 1})
			side(t, v, 1-waits)
		}
	}
}

// Whether an order of the other side is good hangs on the last tick, and not on its owner.
func TestBustAtAPriceAtWhichItWouldTrade(t *testing.T) {
	for _, waits := range []int{api.Buy, api.Sell} {
		for _, owner := range []int{1, 3} { // of another owner, and its own
			for ticks, wantOpen := range []int{0, 0, 5} { // beyond its price, at it, short of it
				v := opened(t, "A")
				rest(t, v, order(1, 1, waits, api.Limit, 100, 5))
				enter(t, v, order(2, 2, 1-waits, api.Now, 100, 5), api.Report{Filled: 5, First: 1, Count: 1})
				price := 99 + ticks
				if waits == api.Sell {
					price = 101 - ticks
				}
				rest(t, v, order(3, owner, 1-waits, api.Limit, price, 4))
				bust(t, v, 1, true)
				counts(t, v, 1, 5, wantOpen, 0, 5-wantOpen, 0)
				counts(t, v, 3, 4, 4, 0, 0, 0) // one that comes again neither trades nor cancels
				hold(t, v)
			}
		}
	}
}

// First the one that buys, then the one that sells: who comes again first is in the other's way.
func TestBustBuyerFirst(t *testing.T) {
	for _, comes := range []int{api.Buy, api.Sell} {
		v := opened(t, "A")
		rest(t, v, order(1, 1, 1-comes, api.Limit, 100, 5))
		enter(t, v, order(2, 2, comes, api.Limit, 100, 5), api.Report{Filled: 5, First: 1, Count: 1})
		bust(t, v, 1, true)
		buys, sells := 1, 2
		if comes == api.Buy {
			buys, sells = 2, 1
		}
		counts(t, v, buys, 5, 5, 0, 0, 0)
		counts(t, v, sells, 5, 0, 0, 5, 0)
		side(t, v, api.Buy, api.Level{Price: 100, Quantity: 5, Orders: 1})
		side(t, v, api.Sell)
	}
}

// Both come again where their last prices have gone apart.
func TestBustBothComeAgain(t *testing.T) {
	v := opened(t, "A")
	rest(t, v, order(1, 1, api.Sell, api.Limit, 100, 5))
	enter(t, v, order(2, 2, api.Buy, api.Limit, 100, 3), api.Report{Filled: 3, First: 1, Count: 1})
	replace(t, v, 1, 101, 4, api.Report{Rests: 4}, api.OK)
	bust(t, v, 1, true)
	counts(t, v, 1, 7, 7, 0, 0, 0)
	counts(t, v, 2, 3, 3, 0, 0, 0)
	side(t, v, api.Buy, api.Level{Price: 100, Quantity: 3, Orders: 1})
	side(t, v, api.Sell, api.Level{Price: 101, Quantity: 7, Orders: 1})
}

// An order that was replaced since comes again at its last price.
func TestBustOfOneThatWasReplaced(t *testing.T) {
	for _, price := range []int{95, 100, 104} {
		v := opened(t, "A")
		rest(t, v, order(1, 1, api.Buy, api.Limit, 100, 5))
		enter(t, v, order(2, 2, api.Sell, api.Now, 100, 3), api.Report{Filled: 3, First: 1, Count: 1})
		replace(t, v, 1, price, 2, api.Report{Rests: 2}, api.OK)
		bust(t, v, 1, true)
		counts(t, v, 1, 5, 5, 0, 0, 0)
		side(t, v, api.Buy, api.Level{Price: price, Quantity: 5, Orders: 1})
		if s, _ := v.Status(1); s.Order.Price != price {
			t.Errorf("Status(1) = %+v, want the price %d", s, price)
		}
	}
}

// At its last price, not at its first nor at the trade's, an order is good for it or is not.
func TestBustOfOneThatWasReplacedAndWouldTrade(t *testing.T) {
	for _, c := range []struct{ price, wantOpen int }{{103, 3}, {104, 3}, {105, 0}, {106, 0}} {
		v := opened(t, "A")
		rest(t, v, order(1, 1, api.Buy, api.Limit, 100, 5))
		enter(t, v, order(2, 2, api.Sell, api.Now, 100, 3), api.Report{Filled: 3, First: 1, Count: 1})
		replace(t, v, 1, c.price, 2, api.Report{Rests: 2}, api.OK)
		wantErrno(t, "Cancel", v.Cancel(1), api.OK)
		rest(t, v, order(3, 3, api.Sell, api.Limit, 105, 3))
		bust(t, v, 1, true)
		counts(t, v, 1, 5, c.wantOpen, 0, 5-c.wantOpen, 0)
		counts(t, v, 3, 3, 3, 0, 0, 0)
	}
}

// An order of which nothing was open any more is open again: also one that was cancelled since.
func TestBustOfOneThatWasCancelled(t *testing.T) {
	v := opened(t, "A")
	rest(t, v, order(1, 1, api.Sell, api.Limit, 100, 5))
	enter(t, v, order(2, 2, api.Buy, api.Market, 0, 3), api.Report{Filled: 3, First: 1, Count: 1})
	wantErrno(t, "Cancel", v.Cancel(1), api.OK)
	bust(t, v, 1, true)
	counts(t, v, 1, 5, 3, 0, 2, 0)
	side(t, v, api.Sell, api.Level{Price: 100, Quantity: 3, Orders: 1})
	enter(t, v, order(3, 3, api.Buy, api.Limit, 100, 1), api.Report{Filled: 1, First: 2, Count: 1})
	replace(t, v, 1, 102, 4, api.Report{Rests: 4}, api.OK)
	counts(t, v, 1, 7, 4, 1, 2, 0)
	wantErrno(t, "Cancel", v.Cancel(1), api.OK)
	counts(t, v, 1, 7, 0, 1, 6, 0)
}

// All that is open of the order, also what was open already, stands behind all others of its price.
func TestBustStandsBehind(t *testing.T) {
	for _, waits := range []int{api.Buy, api.Sell} {
		for _, first := range []int{3, 5} { // of five: some stays open, or nothing does
			v := opened(t, "A")
			better := 101 - 2*waits
			rest(t, v, order(1, 1, waits, api.Limit, 100, 5))
			rest(t, v, order(2, 2, waits, api.Limit, 100, 4))
			rest(t, v, order(3, 3, waits, api.Limit, 200-better, 4)) // worse
			enter(t, v, order(4, 4, 1-waits, api.Now, 100, first), api.Report{Filled: first, First: 1, Count: 1})
			rest(t, v, order(5, 5, waits, api.Limit, 100, 4))
			bust(t, v, 1, true)
			rest(t, v, order(6, 6, waits, api.Limit, 100, 4)) // came later
			for i, id := range []int{2, 5, 1, 6, 3} {
				s, _ := v.Status(id)
				enter(t, v, order(10+i, 9, 1-waits, api.Market, 0, s.Open), api.Report{Filled: s.Open, First: i + 2, Count: 1})
				counts(t, v, id, s.Entered, 0, s.Entered, 0, 0)
			}
		}
	}
}

// An order's other trades stay; one by one they may be busted too.
func TestBustOneOfSeveral(t *testing.T) {
	v := opened(t, "A")
	rest(t, v, order(1, 1, api.Buy, api.Limit, 100, 6))
	for id := 2; id <= 4; id++ {
		enter(t, v, order(id, id, api.Sell, api.Now, 100, id-1), api.Report{Filled: id - 1, First: id - 1, Count: 1})
	}
	bust(t, v, 2, true)
	counts(t, v, 1, 6, 2, 4, 0, 0)
	hold(t, v, of(1, 100, 1, 1, 2, 1), of(3, 100, 3, 1, 4, 1))
	bust(t, v, 3, false)
	counts(t, v, 1, 6, 2, 1, 3, 0)
	bust(t, v, 1, true)
	counts(t, v, 1, 6, 3, 0, 3, 0)
	side(t, v, api.Buy, api.Level{Price: 100, Quantity: 3, Orders: 1})
	hold(t, v)
	tape(t, v, told{api.Print, of(1, 100, 1, 1, 2, 1)}, told{api.Print, of(2, 100, 2, 1, 3, 1)}, told{api.Print, of(3, 100, 3, 1, 4, 1)},
		told{api.Bust, of(2, 100, 2, 1, 3, 1)}, told{api.Bust, of(3, 100, 3, 1, 4, 1)}, told{api.Bust, of(1, 100, 1, 1, 2, 1)})
}

// An order of another symbol is in nobody's way.
func TestBustSymbolsApart(t *testing.T) {
	v := opened(t, "A", "B")
	rest(t, v, order(1, 1, api.Sell, api.Limit, 100, 5))
	enter(t, v, order(2, 2, api.Buy, api.Now, 100, 5), api.Report{Filled: 5, First: 1, Count: 1})
	o := order(3, 3, api.Buy, api.Limit, 200, 5)
	o.Symbol = "B"
	rest(t, v, o)
	bust(t, v, 1, true)
	side(t, v, api.Sell, api.Level{Price: 100, Quantity: 5, Orders: 1})
	counts(t, v, 3, 5, 5, 0, 0, 0)
}

// What comes again may be more than an order may ask for.
func TestBustAboveMaxNumber(t *testing.T) {
	v := opened(t, "A")
	rest(t, v, order(1, 1, api.Buy, api.Limit, 1, api.MaxNumber))
	enter(t, v, order(2, 2, api.Sell, api.Now, 1, api.MaxNumber-1), api.Report{Filled: api.MaxNumber - 1, First: 1, Count: 1})
	replace(t, v, 1, 1, api.MaxNumber, api.Report{Rests: api.MaxNumber}, api.OK)
	bust(t, v, 1, true)
	counts(t, v, 1, 2*api.MaxNumber-1, 2*api.MaxNumber-1, 0, 0, 0)
	side(t, v, api.Buy, api.Level{Price: 1, Quantity: 2*api.MaxNumber - 1, Orders: 1})
	replace(t, v, 1, 1, api.MaxNumber, api.Report{Rests: api.MaxNumber}, api.OK)
	counts(t, v, 1, api.MaxNumber, api.MaxNumber, 0, 0, 0)
}

func TestCorrect(t *testing.T) {
	v, w := exampleOfTwoTrades(t), exampleOfTwoTrades(t)
	for _, price := range []int{98, 98, api.MaxNumber, 1} { // to the same price is an act too
		wantErrno(t, "Correct", v.Correct(1, price), api.OK)
		hold(t, v, of(1, price, 5, 3, 1, 1), of(2, 101, 2, 3, 2, 1))
	}
	wantErrno(t, "Correct back", v.Correct(1, 100), api.OK)
	tape(t, v, told{api.Print, of(1, 100, 5, 3, 1, 1)}, told{api.Print, of(2, 101, 2, 3, 2, 1)},
		told{api.Correct, of(1, 98, 5, 3, 1, 1)}, told{api.Correct, of(1, 98, 5, 3, 1, 1)}, told{api.Correct, of(1, api.MaxNumber, 5, 3, 1, 1)},
		told{api.Correct, of(1, 1, 5, 3, 1, 1)}, told{api.Correct, of(1, 100, 5, 3, 1, 1)})
	for id := 1; id <= 3; id++ { // orders keep their prices
		got, _ := v.Status(id)
		if want, _ := w.Status(id); got != want {
			t.Errorf("Status(%d) = %+v, want %+v", id, got, want)
		}
	}
	side(t, v, api.Sell, api.Level{Price: 101, Quantity: 3, Orders: 1})
}

// A trade that was corrected is busted as it is then; the orders come again at their own prices.
func TestBustOfOneThatWasCorrected(t *testing.T) {
	v := opened(t, "A")
	rest(t, v, order(1, 1, api.Sell, api.Limit, 100, 5))
	enter(t, v, order(2, 2, api.Buy, api.Now, 105, 5), api.Report{Filled: 5, First: 1, Count: 1})
	wantErrno(t, "Correct", v.Correct(1, 107), api.OK)
	bust(t, v, 1, true)
	side(t, v, api.Sell, api.Level{Price: 100, Quantity: 5, Orders: 1})
	hold(t, v)
	tape(t, v, told{api.Print, of(1, 100, 5, 2, 1, 1)}, told{api.Correct, of(1, 107, 5, 2, 1, 1)}, told{api.Bust, of(1, 107, 5, 2, 1, 1)})
}

// Each fault of Bust and Correct alone, and with all that are named behind it.
func TestBustAndCorrectOrderOfErrors(t *testing.T) {
	v := exampleOfTwoTrades(t)
	enter(t, v, order(4, 4, api.Buy, api.Now, 101, 1), api.Report{Filled: 1, First: 3, Count: 1})
	bust(t, v, 1, false)
	v.Close()
	rest(t, v, order(5, 5, api.Sell, api.Limit, 50, 5))
	enter(t, v, order(6, 6, api.Buy, api.Limit, 50, 2), api.Report{Filled: 2, First: 4, Count: 1})
	enter(t, v, order(7, 6, api.Buy, api.Limit, 50, 2), api.Report{Filled: 2, First: 5, Count: 1})
	bust(t, v, 5, true)
	ids := []int{1, 2, 3, 4, 5, 6, 7}
	before := picture(v, []string{"A"}, ids)
	for _, c := range []struct {
		trade int
		want  api.Errno
	}{
		{0, api.ErrUnknown}, {-1, api.ErrUnknown}, {6, api.ErrUnknown}, {7, api.ErrUnknown}, {1 << 62, api.ErrUnknown}, {-1 << 63, api.ErrUnknown}, {1<<63 - 1, api.ErrUnknown}, {1<<32 + 4, api.ErrUnknown},
		{5, api.ErrClosed}, {1, api.ErrClosed}, // of this day, and of an earlier day
		{2, api.ErrDay}, {3, api.ErrDay},
	} {
		wantErrno(t, "Bust", v.Bust(c.trade, true), c.want)
		wantErrno(t, "Bust", v.Bust(c.trade, false), c.want)
		wantErrno(t, "Correct", v.Correct(c.trade, 100), c.want)
		for _, n := range noNumbers {
			wantErrno(t, "Correct to no price", v.Correct(c.trade, n), c.want)
		}
	}
	for _, n := range noNumbers {
		wantErrno(t, "Correct to no price", v.Correct(4, n), api.ErrRange)
	}
	if after := picture(v, []string{"A"}, ids); after != before {
		t.Errorf("what was refused changed\n%sto\n%s", before, after)
	}
	bust(t, v, 4, false)
}

func TestBustAndCorrectInAnEmptyVenue(t *testing.T) {
	v := venue.New()
	for _, n := range []int{1, 0, -1, 1 << 62, -1 << 63} {
		wantErrno(t, "Bust", v.Bust(n, true), api.ErrUnknown)
		wantErrno(t, "Correct", v.Correct(n, 1), api.ErrUnknown)
	}
	hold(t, v)
	tape(t, v)
}
