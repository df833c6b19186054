package venue_test

import (
	"fmt"
	"slices"
	"testing"

	"venue/api"
	"venue/venue"
)

func undo(t *testing.T, v *venue.Venue) {
	t.Helper()
	wantErrno(t, "Undo", v.Undo(), api.OK)
}

func nothingToUndo(t *testing.T, v *venue.Venue) {
	t.Helper()
	wantErrno(t, "Undo", v.Undo(), api.ErrUndo)
}

func correct(t *testing.T, v *venue.Venue, trade, price int) {
	t.Helper()
	wantErrno(t, "Correct", v.Correct(trade, price), api.OK)
}

func cancel(t *testing.T, v *venue.Venue, id int) {
	t.Helper()
	wantErrno(t, "Cancel", v.Cancel(id), api.OK)
}

// The first example of the document, whole.
func TestUndoExample(t *testing.T) {
	const symbol = "ΑΒ1"
	v := opened(t, symbol)
	enterExample := func(id, owner, side, kind, price, quantity int, want api.Report) {
		o := order(id, owner, side, kind, price, quantity)
		o.Symbol = symbol
		enter(t, v, o, want)
	}
	sells := func(want ...api.Level) {
		if got, e := v.Book(symbol, api.Sell); !slices.Equal(got, want) || e != api.OK {
			t.Errorf("Book(%s, Sell) = %v, %d, want %v", symbol, got, e, want)
		}
	}
	enterExample(1, 1, api.Sell, api.Limit, 100, 5, api.Report{Rests: 5})
	enterExample(2, 2, api.Sell, api.Day, 101, 5, api.Report{Rests: 5})
	enterExample(3, 3, api.Buy, api.Limit, 101, 7, api.Report{Filled: 7, First: 1, Count: 2})
	first := api.Trade{Number: 1, Symbol: symbol, Price: 100, Quantity: 5, Buy: 3, Sell: 1, Day: 1}
	second := api.Trade{Number: 2, Symbol: symbol, Price: 101, Quantity: 2, Buy: 3, Sell: 2, Day: 1}
	sells(api.Level{Price: 101, Quantity: 3, Orders: 1})
	v.Close()
	counts(t, v, 2, 5, 0, 2, 0, 3)
	wantErrno(t, "Bust", v.Bust(1, true), api.ErrDay)
	undo(t, v) // the Close
	counts(t, v, 2, 5, 3, 2, 0, 0)
	sells(api.Level{Price: 101, Quantity: 3, Orders: 1})
	bust(t, v, 1, true)
	counts(t, v, 3, 7, 0, 2, 5, 0)
	counts(t, v, 1, 5, 5, 0, 0, 0)
	sells(api.Level{Price: 100, Quantity: 5, Orders: 1}, api.Level{Price: 101, Quantity: 3, Orders: 1})
	tape(t, v, told{api.Print, first}, told{api.Print, second}, ended(1), told{api.Bust, first})
	undo(t, v)
	tape(t, v, told{api.Print, first}, told{api.Print, second}, ended(1), told{api.Bust, first}, told{api.Print, first})
	hold(t, v, first, second)
	counts(t, v, 3, 7, 0, 7, 0, 0)
	counts(t, v, 1, 5, 0, 5, 0, 0)
	sells(api.Level{Price: 101, Quantity: 3, Orders: 1})
}

var (
	busySymbols = []string{"A", "Α", "B", "C"}
	busyIDs     = []int{1, 2, 3, 4, 5, 6, 7, 11, 12, 13, 14, 15, 16, 21, 22, 31, 32, 50}
)

// busy makes a venue with several orders of one price on both sides of A, two trades of an earlier day, and two of
// this one: 3 of the orders 6 and 32, 4 of the orders 31 and 16.
func busy(t *testing.T) *venue.Venue {
	t.Helper()
	v := opened(t, "A", "Α")
	rest(t, v, order(21, 1, api.Sell, api.Limit, 100, 3))
	rest(t, v, order(22, 2, api.Sell, api.Limit, 101, 3))
	enter(t, v, order(7, 3, api.Buy, api.Now, 101, 6), api.Report{Filled: 6, First: 1, Count: 2})
	v.Close()
	for i, kind := range []int{api.Limit, api.Day, api.Post, api.Limit, api.Day} {
		rest(t, v, order(i+1, i+1, api.Buy, kind, 95, 4))
		rest(t, v, order(i+11, i+1, api.Sell, kind, 105, 4))
	}
	rest(t, v, order(6, 7, api.Buy, api.Limit, 96, 4))
	enter(t, v, order(32, 9, api.Sell, api.Limit, 96, 3), api.Report{Filled: 3, First: 3, Count: 1})
	replace(t, v, 6, 97, 2, api.Report{Rests: 2}, api.OK)
	rest(t, v, order(16, 6, api.Sell, api.Limit, 104, 4))
	enter(t, v, order(31, 8, api.Buy, api.Limit, 104, 2), api.Report{Filled: 2, First: 4, Count: 1})
	return v
}

// drained sells and buys all that waits in A, in small pieces, and tells what came of each: the ranks of all are seen.
func drained(v *venue.Venue) string {
	all := ""
	for id := 101; id < 150; id++ {
		r, e := v.Enter(order(id, 0, id%2, api.Market, 0, 1))
		s, _ := v.Status(id)
		trades := v.Trades()
		all += fmt.Sprintln(r, e, s, trades[len(trades)-1])
	}
	return all
}

// busyAct: an act with a busy venue, what it answers, and what it and its Undo tell on the tape.
type busyAct struct {
	name   string
	do     func(v *venue.Venue) answer
	answer answer
	tells  []told
	undone []told
}

type answer struct {
	r api.Report
	e api.Errno
}

func entering(o api.Order) func(*venue.Venue) answer {
	return func(v *venue.Venue) answer {
		r, e := v.Enter(o)
		return answer{r, e}
	}
}

func replacing(id, price, quantity int) func(*venue.Venue) answer {
	return func(v *venue.Venue) answer {
		r, e := v.Replace(id, price, quantity)
		return answer{r, e}
	}
}

func doing(act func(*venue.Venue) api.Errno) func(*venue.Venue) answer {
	return func(v *venue.Venue) answer { return answer{e: act(v)} }
}

func ending(v *venue.Venue) api.Errno {
	v.Close()
	return api.OK
}

// actsThatTrade: some change several orders, some take orders out of a book and put one in.
func actsThatTrade() []busyAct {
	sweep := []told{{api.Print, of(5, 104, 2, 50, 16, 2)}, {api.Print, of(6, 105, 4, 50, 11, 2)}, {api.Print, of(7, 105, 4, 50, 13, 2)}, {api.Print, of(8, 105, 1, 50, 14, 2)}}
	all := []told{{api.Print, of(5, 97, 2, 6, 50, 2)}, {api.Print, of(6, 95, 4, 1, 50, 2)}, {api.Print, of(7, 95, 4, 3, 50, 2)}, {api.Print, of(8, 95, 4, 4, 50, 2)}, {api.Print, of(9, 95, 4, 5, 50, 2)}}
	raised := []told{{api.Print, of(5, 104, 2, 2, 16, 2)}, {api.Print, of(6, 105, 4, 2, 11, 2)}}
	return []busyAct{
		{"Enter of a Limit order that trades with one, in part", entering(order(50, 9, api.Buy, api.Limit, 104, 1)),
			answer{api.Report{Filled: 1, First: 5, Count: 1}, api.OK}, []told{{api.Print, of(5, 104, 1, 50, 16, 2)}}, []told{{api.Bust, of(5, 104, 1, 50, 16, 2)}}},
		{"Enter of a Now order that trades with several and cancels one of its owner", entering(order(50, 2, api.Buy, api.Now, 105, 11)),
			answer{api.Report{Filled: 11, First: 5, Count: 4}, api.OK}, sweep, bustedLastFirst(sweep)},
		{"Enter of a Day order that empties a side, cancels one of its owner, and rests", entering(order(50, 2, api.Sell, api.Day, 94, 20)),
			answer{api.Report{Filled: 18, Rests: 2, First: 5, Count: 5}, api.OK}, all, bustedLastFirst(all)},
		{"Enter of a Whole order", entering(order(50, 9, api.Sell, api.Whole, 97, 2)),
			answer{api.Report{Filled: 2, First: 5, Count: 1}, api.OK}, []told{{api.Print, of(5, 97, 2, 6, 50, 2)}}, []told{{api.Bust, of(5, 97, 2, 6, 50, 2)}}},
		{"Enter of a Market order", entering(order(50, 2, api.Sell, api.Market, 0, 30)),
			answer{api.Report{Filled: 18, Cancelled: 12, First: 5, Count: 5}, api.OK}, all, bustedLastFirst(all)},
		{"Enter that cancels one of its owner alone", entering(order(50, 7, api.Sell, api.Limit, 97, 5)),
			answer{api.Report{Rests: 5}, api.OK}, nil, nil},
		{"Replace that trades with several", replacing(2, 105, 6),
			answer{api.Report{Filled: 6, First: 5, Count: 2}, api.OK}, raised, bustedLastFirst(raised)},
		{"Replace that trades and rests", replacing(6, 104, 5),
			answer{api.Report{Filled: 2, Rests: 3, First: 5, Count: 1}, api.OK}, []told{{api.Print, of(5, 104, 2, 6, 16, 2)}}, []told{{api.Bust, of(5, 104, 2, 6, 16, 2)}}},
	}
}

func bustedLastFirst(printed []told) []told {
	var all []told
	for _, p := range slices.Backward(printed) {
		all = append(all, told{api.Bust, p.trade})
	}
	return all
}

func actsThatDoNotTrade() []busyAct {
	waited, older := of(3, 96, 3, 6, 32, 2), of(4, 104, 2, 31, 16, 2)
	dearer := older
	dearer.Price = 111
	return []busyAct{
		{"List", doing(func(v *venue.Venue) api.Errno { return v.List("B") }), answer{}, nil, nil},
		{"Enter of a Limit order that rests", entering(order(50, 1, api.Buy, api.Limit, 95, 7)), answer{api.Report{Rests: 7}, api.OK}, nil, nil},
		{"Enter of a Post order", entering(order(50, 1, api.Sell, api.Post, 104, 7)), answer{api.Report{Rests: 7}, api.OK}, nil, nil},
		{"Enter of a Now order of which nothing is filled", entering(order(50, 9, api.Buy, api.Now, 103, 7)), answer{api.Report{Cancelled: 7}, api.OK}, nil, nil},
		{"Cancel", doing(func(v *venue.Venue) api.Errno { return v.Cancel(2) }), answer{}, nil, nil},
		{"Cancel of one that is filled in part", doing(func(v *venue.Venue) api.Errno { return v.Cancel(6) }), answer{}, nil, nil},
		{"Replace to less, in its place", replacing(1, 95, 1), answer{api.Report{Rests: 1}, api.OK}, nil, nil},
		{"Replace to the same, in its place", replacing(13, 105, 4), answer{api.Report{Rests: 4}, api.OK}, nil, nil},
		{"Replace to more, behind all others", replacing(1, 95, 5), answer{api.Report{Rests: 5}, api.OK}, nil, nil},
		{"Replace to a better price", replacing(14, 103, 4), answer{api.Report{Rests: 4}, api.OK}, nil, nil},
		{"Replace to a worse price", replacing(6, 1, 9), answer{api.Report{Rests: 9}, api.OK}, nil, nil},
		{"Bust for good", doing(func(v *venue.Venue) api.Errno { return v.Bust(4, false) }), answer{}, []told{{api.Bust, older}}, []told{{api.Print, older}}},
		{"Bust, where one stands behind the others again", doing(func(v *venue.Venue) api.Errno { return v.Bust(4, true) }), answer{}, []told{{api.Bust, older}}, []told{{api.Print, older}}},
		{"Bust, where one was replaced", doing(func(v *venue.Venue) api.Errno { return v.Bust(3, true) }), answer{}, []told{{api.Bust, waited}}, []told{{api.Print, waited}}},
		{"Correct", doing(func(v *venue.Venue) api.Errno { return v.Correct(4, 111) }), answer{}, []told{{api.Correct, dearer}}, []told{{api.Correct, older}}},
		{"Correct to the same price", doing(func(v *venue.Venue) api.Errno { return v.Correct(4, 104) }), answer{}, []told{{api.Correct, older}}, []told{{api.Correct, older}}},
		{"Close", doing(ending), answer{}, []told{ended(2)}, nil},
	}
}

// Each act, undone, done again with the same answer, and undone again: all is as if it had never been, but for the tape.
func TestUndoOfEachAct(t *testing.T) {
	for _, act := range append(actsThatTrade(), actsThatDoNotTrade()...) {
		v := busy(t)
		before := standing(v, busySymbols, busyIDs)
		want := v.Tape(1)
		add := func(records []told) {
			for _, x := range records {
				want = append(want, api.Record{Number: len(want) + 1, Kind: x.kind, Trade: x.trade})
			}
			if got := v.Tape(1); !slices.Equal(got, want) {
				t.Errorf("%s: Tape(1) =\n%+v, want\n%+v", act.name, got, want)
			}
		}
		for range 3 {
			if got := act.do(v); got != act.answer {
				t.Errorf("%s: %+v, want %+v", act.name, got, act.answer)
			}
			add(act.tells)
			undo(t, v)
			add(act.undone)
			if after := standing(v, busySymbols, busyIDs); after != before {
				t.Errorf("%s, undone:\n%swas\n%s", act.name, after, before)
			}
		}
		if got, want := drained(v), drained(busy(t)); got != want {
			t.Errorf("%s, undone: the orders trade as\n%swant\n%s", act.name, got, want)
		}
	}
}

// Pairs of acts, undone one by one: where the second leans on the first as well, and where it is refused.
func TestUndoOfPairsOfActs(t *testing.T) {
	all := append(actsThatTrade(), actsThatDoNotTrade()...)
	ahead, ranks := standing(busy(t), busySymbols, busyIDs), drained(busy(t))
	refused := 0
	for _, first := range all {
		for _, second := range all {
			v := busy(t)
			first.do(v)
			between := standing(v, busySymbols, busyIDs)
			if second.do(v).e == api.OK {
				undo(t, v)
			} else {
				refused++
			}
			if got := standing(v, busySymbols, busyIDs); got != between {
				t.Errorf("%s, %s, undone:\n%swant\n%s", first.name, second.name, got, between)
			}
			undo(t, v)
			if got := standing(v, busySymbols, busyIDs); got != ahead {
				t.Errorf("%s, %s, both undone:\n%swant\n%s", first.name, second.name, got, ahead)
			}
			if got := drained(v); got != ranks {
				t.Errorf("%s, %s, both undone: the orders trade as\n%swant\n%s", first.name, second.name, got, ranks)
			}
		}
	}
	if pairs := len(all) * len(all); refused == 0 || refused > pairs/2 {
		t.Errorf("%d of %d pairs were refused", refused, pairs)
	}
}

// Several in a row, back to the beginning, and one more; then all of it once again.
func TestUndoBackToTheBeginning(t *testing.T) {
	ids := []int{1, 2, 3, 4}
	one, two, three := of(1, 100, 5, 3, 1, 1), of(2, 101, 2, 3, 2, 1), of(3, 101, 3, 4, 2, 1)
	oneAt90, twoAt91 := of(1, 90, 5, 3, 1, 1), of(2, 91, 2, 3, 2, 1)
	v := venue.New()
	var want []told
	for range 3 {
		var were []string
		for _, act := range []func(){
			func() { wantErrno(t, "List", v.List("A"), api.OK) },
			func() { rest(t, v, order(1, 1, api.Sell, api.Limit, 100, 5)) },
			func() { rest(t, v, order(2, 2, api.Sell, api.Day, 101, 5)) },
			func() {
				enter(t, v, order(3, 3, api.Buy, api.Limit, 101, 7), api.Report{Filled: 7, First: 1, Count: 2})
			},
			func() { correct(t, v, 1, 90) },
			func() { bust(t, v, 1, true) },
			func() { replace(t, v, 1, 103, 1, api.Report{Rests: 1}, api.OK) },
			func() { correct(t, v, 2, 91) },
			func() { enter(t, v, order(4, 4, api.Buy, api.Market, 0, 3), api.Report{Filled: 3, First: 3, Count: 1}) },
			func() { bust(t, v, 3, false) },
			func() { cancel(t, v, 1) },
			func() { v.Close() },
			func() { v.Close() },
		} {
			were = append(were, standing(v, []string{"A"}, ids))
			act()
		}
		for i, was := range slices.Backward(were) {
			undo(t, v)
			if now := standing(v, []string{"A"}, ids); now != was {
				t.Errorf("behind the Undo of act %d:\n%swas\n%s", i, now, was)
			}
		}
		nothingToUndo(t, v)
		nothingToUndo(t, v)
		want = append(want,
			told{api.Print, one}, told{api.Print, two}, told{api.Correct, oneAt90}, told{api.Bust, oneAt90},
			told{api.Correct, twoAt91}, told{api.Print, three}, told{api.Bust, three}, ended(1), ended(2),
			told{api.Print, three}, told{api.Bust, three}, told{api.Correct, two},
			told{api.Print, oneAt90}, told{api.Correct, one}, told{api.Bust, two}, told{api.Bust, one})
		tape(t, v, want...)
		if now := standing(v, []string{"A"}, ids); now != standing(venue.New(), []string{"A"}, ids) {
			t.Errorf("all is undone, but there is\n%s", now)
		}
	}
}

// Nothing is to undo in a new venue, whatever was asked of it or refused; ErrUndo changes nothing.
func TestUndoOfNothing(t *testing.T) {
	v := venue.New()
	for range 3 {
		nothingToUndo(t, v)
		wantErrno(t, "List", v.List("a"), api.ErrName)
		refuse(t, v, order(1, 1, api.Buy, api.Limit, 1, 1), api.ErrUnknown)
		wantErrno(t, "Cancel", v.Cancel(1), api.ErrUnknown)
		replace(t, v, 1, 1, 1, api.Report{}, api.ErrUnknown)
		wantErrno(t, "Bust", v.Bust(1, true), api.ErrUnknown)
		wantErrno(t, "Correct", v.Correct(1, 1), api.ErrUnknown)
		picture(v, []string{"A"}, []int{1})
		nothingToUndo(t, v)
		tape(t, v)
		hold(t, v)
	}
	v.Close() // the days begin with 1
	tape(t, v, ended(1))
	undo(t, v)
	nothingToUndo(t, v)
	tape(t, v, ended(1))
}

// refusedCalls does calls with each error that a busy venue can give, and asks questions.
func refusedCalls(t *testing.T, v *venue.Venue) {
	t.Helper()
	before := picture(v, busySymbols, busyIDs)
	wantErrno(t, "List", v.List("αβ"), api.ErrName)
	wantErrno(t, "List", v.List("Α"), api.ErrTaken)
	refuse(t, v, order(0, 1, api.Buy, api.Limit, 1, 1), api.ErrID)
	refuse(t, v, order(1, 1, api.Buy, api.Limit, 1, 1), api.ErrTaken)
	refuse(t, v, order(99, 1, api.Buy, api.Limit, 0, 1), api.ErrRange)
	refuse(t, v, order(99, 1, api.Buy, 6, 1, 1), api.ErrKind)
	refuse(t, v, api.Order{ID: 99, Symbol: "D", Price: 1, Quantity: 1}, api.ErrUnknown)
	refuse(t, v, order(99, 0, api.Sell, api.Post, 1, 1), api.ErrCross)
	refuse(t, v, order(99, 0, api.Sell, api.Whole, 1, 999), api.ErrWhole)
	wantErrno(t, "Cancel", v.Cancel(99), api.ErrUnknown)
	wantErrno(t, "Cancel", v.Cancel(7), api.ErrClosed)
	replace(t, v, 99, 1, 1, api.Report{}, api.ErrUnknown)
	replace(t, v, 7, 1, 1, api.Report{}, api.ErrClosed)
	replace(t, v, 4, 0, 1, api.Report{}, api.ErrRange)
	wantErrno(t, "Bust", v.Bust(99, true), api.ErrUnknown)
	wantErrno(t, "Bust", v.Bust(1, true), api.ErrDay)
	wantErrno(t, "Correct", v.Correct(99, 1), api.ErrUnknown)
	wantErrno(t, "Correct", v.Correct(2, 1), api.ErrDay)
	if after := picture(v, busySymbols, busyIDs); after != before {
		t.Errorf("what was refused changed\n%sto\n%s", before, after)
	}
}

// What gave an error is no act, and no question is: what is undone is the act ahead of them.
func TestUndoGoesPastErrorsAndQuestions(t *testing.T) {
	v := busy(t)
	first := standing(v, busySymbols, busyIDs)
	refusedCalls(t, v)
	rest(t, v, order(50, 1, api.Buy, api.Limit, 95, 7))
	second := standing(v, busySymbols, busyIDs)
	refusedCalls(t, v)
	bust(t, v, 4, true)
	wantErrno(t, "Bust", v.Bust(4, true), api.ErrClosed)
	wantErrno(t, "Correct", v.Correct(4, 5), api.ErrClosed)
	refusedCalls(t, v)
	undo(t, v)
	if now := standing(v, busySymbols, busyIDs); now != second {
		t.Errorf("one is undone:\n%swant\n%s", now, second)
	}
	refusedCalls(t, v)
	undo(t, v)
	if now := standing(v, busySymbols, busyIDs); now != first {
		t.Errorf("two are undone:\n%swant\n%s", now, first)
	}
}

// An Undo can't be undone: the next goes one act further back; new acts come on top of what was not undone.
func TestUndoOfAnUndo(t *testing.T) {
	v := opened(t, "A")
	rest(t, v, order(1, 1, api.Buy, api.Limit, 100, 1))
	rest(t, v, order(2, 2, api.Buy, api.Limit, 100, 2))
	undo(t, v)
	undo(t, v)
	side(t, v, api.Buy)
	rest(t, v, order(2, 3, api.Buy, api.Limit, 99, 3))
	rest(t, v, order(3, 3, api.Buy, api.Limit, 98, 4))
	undo(t, v)
	rest(t, v, order(1, 5, api.Buy, api.Limit, 97, 5))
	side(t, v, api.Buy, api.Level{Price: 99, Quantity: 3, Orders: 1}, api.Level{Price: 97, Quantity: 5, Orders: 1})
	undo(t, v)
	side(t, v, api.Buy, api.Level{Price: 99, Quantity: 3, Orders: 1})
	undo(t, v)
	side(t, v, api.Buy)
	undo(t, v)
	nothingToUndo(t, v)
}

// rankOf tells the orders that wait in A on a side, one by one as they are sold or bought; each has 1 open.
func rankOf(t *testing.T, v *venue.Venue, comes int) []int {
	t.Helper()
	var ids []int
	for id := 900; ; id++ {
		r, e := v.Enter(order(id, 0, comes, api.Market, 0, 1))
		if e != api.OK {
			t.Fatalf("Enter(%d ..): error %d", id, e)
		}
		if r.Count == 0 {
			return ids
		}
		trades := v.Trades()
		last := trades[len(trades)-1]
		ids = append(ids, last.Buy+last.Sell-id)
	}
}

// Of equal prices each order stands where it stood, whichever of them was taken out and however, and one that
// comes behind the Undo stands behind all of them.
func TestUndoPlaces(t *testing.T) {
	const orders = 7
	for _, waits := range []int{api.Buy, api.Sell} {
		for id := 1; id <= orders; id++ {
			better, worse := 101-2*waits, 99+2*waits
			for name, act := range map[string]func(v *venue.Venue) api.Errno{
				"Cancel":                  func(v *venue.Venue) api.Errno { return v.Cancel(id) },
				"Replace to more":         func(v *venue.Venue) api.Errno { return replacing(id, 100, 2)(v).e },
				"Replace to a better one": func(v *venue.Venue) api.Errno { return replacing(id, better, 1)(v).e },
				"Replace to a worse one":  func(v *venue.Venue) api.Errno { return replacing(id, worse, 1)(v).e },
				"trading with the first":  func(v *venue.Venue) api.Errno { return entering(order(50, 9, 1-waits, api.Now, 100, id))(v).e },
				"its owner's order comes": func(v *venue.Venue) api.Errno { return entering(order(50, id, 1-waits, api.Limit, 100, orders+1))(v).e },
				"Close":                   ending,
			} {
				v := opened(t, "A")
				var want []int
				for other := 1; other <= orders; other++ {
					rest(t, v, order(other, other, waits, other%2, 100, 1)) // every second is a Day order
					want = append(want, other)
				}
				wantErrno(t, name, act(v), api.OK)
				undo(t, v)
				rest(t, v, order(60, 8, waits, api.Limit, 100, 1))
				if got := rankOf(t, v, 1-waits); !slices.Equal(got, append(want, 60)) {
					t.Errorf("side %d: %s with order %d, undone: they stand as %v", waits, name, id, got)
				}
			}
		}
	}
}

// An order that has lost its place by coming again is back in it, when the Bust is undone; and it has lost it
// again, when the Bust is done again.
func TestUndoPlacesOfABust(t *testing.T) {
	v := opened(t, "A")
	rest(t, v, order(1, 1, api.Sell, api.Limit, 100, 2))
	rest(t, v, order(2, 2, api.Sell, api.Limit, 100, 1))
	enter(t, v, order(3, 3, api.Buy, api.Now, 100, 1), api.Report{Filled: 1, First: 1, Count: 1})
	rest(t, v, order(4, 4, api.Sell, api.Limit, 100, 1))
	for range 2 {
		bust(t, v, 1, true)
		side(t, v, api.Sell, api.Level{Price: 100, Quantity: 4, Orders: 3})
		undo(t, v)
		side(t, v, api.Sell, api.Level{Price: 100, Quantity: 3, Orders: 3})
	}
	enter(t, v, order(5, 5, api.Buy, api.Now, 100, 1), api.Report{Filled: 1, First: 2, Count: 1})
	counts(t, v, 1, 2, 0, 2, 0, 0)
	undo(t, v)
	bust(t, v, 1, true)
	enter(t, v, order(5, 5, api.Buy, api.Now, 100, 3), api.Report{Filled: 3, First: 2, Count: 3})
	hold(t, v, of(2, 100, 1, 5, 2, 1), of(3, 100, 1, 5, 4, 1), of(4, 100, 1, 5, 1, 1))
}

// Ids, symbols and numbers of trades that are undone are free again, for anything else too.
func TestUndoFreesNames(t *testing.T) {
	v := opened(t, "A")
	rest(t, v, order(1, 1, api.Sell, api.Limit, 100, 5))
	enter(t, v, order(2, 2, api.Buy, api.Limit, 100, 3), api.Report{Filled: 3, First: 1, Count: 1})
	undo(t, v)
	wantErrno(t, "Bust of what was never traded", v.Bust(1, true), api.ErrUnknown)
	wantErrno(t, "Correct of what was never traded", v.Correct(1, 1), api.ErrUnknown)
	wantErrno(t, "Cancel of what was never entered", v.Cancel(2), api.ErrUnknown)
	replace(t, v, 2, 1, 1, api.Report{}, api.ErrUnknown)
	if s, e := v.Status(2); s != (api.Status{}) || e != api.ErrUnknown {
		t.Errorf("Status(2) = %+v, %d", s, e)
	}
	enter(t, v, order(2, 3, api.Buy, api.Market, 0, 1), api.Report{Filled: 1, First: 1, Count: 1})
	hold(t, v, of(1, 100, 1, 2, 1, 1))
	tape(t, v, told{api.Print, of(1, 100, 3, 2, 1, 1)}, told{api.Bust, of(1, 100, 3, 2, 1, 1)}, told{api.Print, of(1, 100, 1, 2, 1, 1)})
	undo(t, v)
	undo(t, v)
	undo(t, v)
	refuse(t, v, order(1, 1, api.Sell, api.Limit, 100, 5), api.ErrUnknown) // there is no A
	wantErrno(t, "List", v.List("Α"), api.OK)
	refuse(t, v, order(1, 1, api.Sell, api.Limit, 100, 5), api.ErrUnknown)
	wantErrno(t, "List", v.List("A"), api.OK)
	rest(t, v, order(1, 1, api.Buy, api.Day, 7, 9)) // nothing of the first A is left
	side(t, v, api.Buy, api.Level{Price: 7, Quantity: 9, Orders: 1})
	side(t, v, api.Sell)
}

// What is undone counts for no limit.
func TestUndoAndLimits(t *testing.T) {
	v := venue.New()
	for i := range api.MaxSymbols {
		wantErrno(t, "List", v.List(string(rune('A'+i))), api.OK)
	}
	wantErrno(t, "List", v.List("Z"), api.ErrLimit)
	undo(t, v)
	wantErrno(t, "List", v.List("Z"), api.OK)
	wantErrno(t, "List", v.List("F"), api.ErrLimit)
	for id := 1; id <= api.MaxOrders; id++ {
		rest(t, v, order(id, 1, api.Buy, api.Limit, 1, 1))
	}
	refuse(t, v, order(999, 1, api.Buy, api.Limit, 1, 1), api.ErrLimit)
	undo(t, v)
	undo(t, v)
	rest(t, v, order(999, 1, api.Buy, api.Limit, 1, 1))
	enter(t, v, order(998, 2, api.Sell, api.Market, 0, 1), api.Report{Filled: 1, First: 1, Count: 1})
	refuse(t, v, order(997, 1, api.Buy, api.Limit, 1, 1), api.ErrLimit)
}

// The day that has not ended: its trades can be put right, new ones are of it, and its end is told anew.
func TestUndoOfDays(t *testing.T) {
	v := exampleOfTwoTrades(t)
	v.Close()
	v.Close()
	enter(t, v, order(4, 4, api.Sell, api.Limit, 99, 1), api.Report{Rests: 1})
	enter(t, v, order(5, 5, api.Buy, api.Limit, 99, 1), api.Report{Filled: 1, First: 3, Count: 1})
	hold(t, v, of(1, 100, 5, 3, 1, 1), of(2, 101, 2, 3, 2, 1), of(3, 99, 1, 5, 4, 3))
	for range 3 {
		undo(t, v)
	}
	wantErrno(t, "Correct on the second day", v.Correct(2, 9), api.ErrDay)
	undo(t, v)
	correct(t, v, 2, 9)
	enter(t, v, order(4, 4, api.Buy, api.Limit, 101, 1), api.Report{Filled: 1, First: 3, Count: 1})
	v.Close()
	hold(t, v, of(1, 100, 5, 3, 1, 1), of(2, 9, 2, 3, 2, 1), of(3, 101, 1, 4, 2, 1))
	tape(t, v, told{api.Print, of(1, 100, 5, 3, 1, 1)}, told{api.Print, of(2, 101, 2, 3, 2, 1)}, ended(1), ended(2),
		told{api.Print, of(3, 99, 1, 5, 4, 3)}, told{api.Bust, of(3, 99, 1, 5, 4, 3)},
		told{api.Correct, of(2, 9, 2, 3, 2, 1)}, told{api.Print, of(3, 101, 1, 4, 2, 1)}, ended(1))
}

// A price that was corrected several times goes back step by step; a Bust between tells the price of then.
func TestUndoOfCorrections(t *testing.T) {
	v := exampleOfTwoTrades(t)
	at := func(price int) api.Trade { return of(2, price, 2, 3, 2, 1) }
	correct(t, v, 2, 50)
	correct(t, v, 2, 50)
	correct(t, v, 2, api.MaxNumber)
	bust(t, v, 2, false)
	for _, want := range []int{api.MaxNumber, 50, 50, 101} {
		undo(t, v)
		hold(t, v, of(1, 100, 5, 3, 1, 1), at(want))
	}
	tape(t, v, told{api.Print, of(1, 100, 5, 3, 1, 1)}, told{api.Print, at(101)},
		told{api.Correct, at(50)}, told{api.Correct, at(50)}, told{api.Correct, at(api.MaxNumber)}, told{api.Bust, at(api.MaxNumber)},
		told{api.Print, at(api.MaxNumber)}, told{api.Correct, at(50)}, told{api.Correct, at(50)}, told{api.Correct, at(101)})
}

// What Undo does in one venue is nothing to another; lists that came out ahead of it stay as they are.
func TestUndoLeavesOthersAlone(t *testing.T) {
	v, w := busy(t), busy(t)
	other := picture(w, busySymbols, busyIDs)
	trades, records := v.Trades(), v.Tape(1)
	levels, _ := v.Book("A", api.Sell)
	keptTrades, keptRecords, keptLevels := slices.Clone(trades), slices.Clone(records), slices.Clone(levels)
	for range 50 { // more than there are acts
		v.Undo()
	}
	nothingToUndo(t, v)
	wantErrno(t, "List", v.List("A"), api.OK)
	rest(t, v, order(1, 1, api.Sell, api.Limit, 5, 5))
	enter(t, v, order(2, 2, api.Buy, api.Limit, 5, 5), api.Report{Filled: 5, First: 1, Count: 1})
	if !slices.Equal(trades, keptTrades) || !slices.Equal(records, keptRecords) || !slices.Equal(levels, keptLevels) {
		t.Error("a list changed when acts were undone")
	}
	if now := v.Tape(1); !slices.Equal(now[:len(records)], records) {
		t.Errorf("the tape began with\n%+v, and now with\n%+v", records, now)
	}
	if now := picture(w, busySymbols, busyIDs); now != other {
		t.Errorf("another venue was\n%sand is\n%s", other, now)
	}
	spoil(trades, api.Trade{Number: -1})
	spoil(records, api.Record{Number: -1})
	now := picture(v, busySymbols, busyIDs)
	spoil(v.Trades(), api.Trade{Number: -1})
	spoil(v.Tape(1), api.Record{Number: -1})
	if after := picture(v, busySymbols, busyIDs); after != now {
		t.Errorf("a caller changed\n%sto\n%s", now, after)
	}
	undo(t, w)
}
