package venue_test

import (
	"slices"
	"testing"

	"venue/api"
	"venue/venue"
)

// manyRecords makes a venue whose tape has records of all kinds.
func manyRecords(t *testing.T) *venue.Venue {
	t.Helper()
	v := opened(t, "A", "Α")
	o := api.Order{ID: 1, Owner: 1, Symbol: "Α", Side: api.Buy, Price: 7, Quantity: 100}
	rest(t, v, o)
	rest(t, v, order(2, 2, api.Sell, api.Limit, 9, 100))
	for id := 3; id < 20; id++ {
		o := order(id, 3, id%2, api.Market, 0, id)
		if o.Side == api.Sell {
			o.Symbol = "Α"
		}
		trade := id - 2
		enter(t, v, o, api.Report{Filled: id, First: trade, Count: 1})
		switch id % 5 {
		case 0:
			v.Close()
		case 1:
			wantErrno(t, "Correct", v.Correct(trade, id), api.OK)
		case 2:
			bust(t, v, trade, true)
		}
	}
	return v
}

// A trade has the symbol, the price of the one that waited, and who buys and who sells, whoever came.
func TestTrades(t *testing.T) {
	v := opened(t, "A", "Α")
	hold(t, v)
	rest(t, v, order(11, 1, api.Sell, api.Limit, 100, 5))
	rest(t, v, order(12, 1, api.Sell, api.Limit, 102, 5))
	enter(t, v, order(13, 2, api.Buy, api.Limit, 103, 7), api.Report{Filled: 7, First: 1, Count: 2})
	o := api.Order{ID: 21, Owner: 1, Symbol: "Α", Side: api.Buy, Price: 50, Quantity: 4}
	rest(t, v, o)
	o = api.Order{ID: 22, Owner: 2, Symbol: "Α", Side: api.Sell, Kind: api.Market, Quantity: 9}
	enter(t, v, o, api.Report{Filled: 4, Cancelled: 5, First: 3, Count: 1})
	// a Replace that trades: the other one waited
	rest(t, v, order(14, 3, api.Buy, api.Limit, 90, 1))
	replace(t, v, 14, 110, 1, api.Report{Filled: 1, First: 4, Count: 1}, api.OK)
	want := []api.Trade{
		of(1, 100, 5, 13, 11, 1), of(2, 102, 2, 13, 12, 1),
		{Number: 3, Symbol: "Α", Price: 50, Quantity: 4, Buy: 21, Sell: 22, Day: 1},
		of(4, 102, 1, 14, 12, 1),
	}
	hold(t, v, want...)
	bust(t, v, 2, false)
	wantErrno(t, "Correct", v.Correct(3, 51), api.OK)
	want[2].Price = 51
	hold(t, v, want[0], want[2], want[3])
	tape(t, v, told{api.Print, want[0]}, told{api.Print, want[1]},
		told{api.Print, api.Trade{Number: 3, Symbol: "Α", Price: 50, Quantity: 4, Buy: 21, Sell: 22, Day: 1}},
		told{api.Print, want[3]}, told{api.Bust, want[1]}, told{api.Correct, want[2]})
}

func TestTapeFrom(t *testing.T) {
	v := manyRecords(t)
	all := v.Tape(1)
	if len(all) != 26 { // 17 trades; 3 each that are corrected, busted, and days
		t.Fatalf("Tape(1) has %d records", len(all))
	}
	for i, r := range all {
		if r.Number != i+1 {
			t.Errorf("record %d has the number %d", i+1, r.Number)
		}
	}
	for from := 1; from <= len(all); from++ {
		if got := v.Tape(from); !slices.Equal(got, all[from-1:]) {
			t.Errorf("Tape(%d) = %+v, want %+v", from, got, all[from-1:])
		}
	}
	for _, from := range []int{0, -1, -1 << 63, -1 << 62} {
		if got := v.Tape(from); !slices.Equal(got, all) {
			t.Errorf("Tape(%d) = %+v, want all", from, got)
		}
	}
	for _, from := range []int{len(all) + 1, len(all) + 2, 1 << 62, 1<<63 - 1} {
		if got := v.Tape(from); len(got) != 0 {
			t.Errorf("Tape(%d) = %+v, want nothing", from, got)
		}
	}
	for _, from := range []int{-1, 0, 1, 2} {
		if got := venue.New().Tape(from); len(got) != 0 {
			t.Errorf("Tape(%d) = %+v of a new venue", from, got)
		}
	}
}

// What has been told is never changed, whatever is put right behind it.
func TestTapeIsNeverChanged(t *testing.T) {
	v := exampleOfTwoTrades(t)
	var before []api.Record
	for _, act := range []func(){
		func() { wantErrno(t, "Correct", v.Correct(1, 55), api.OK) },
		func() { bust(t, v, 1, true) },
		func() { replace(t, v, 1, 103, 9, api.Report{Rests: 9}, api.OK) },
		func() { wantErrno(t, "Correct", v.Correct(2, 56), api.OK) },
		func() { v.Close() },
		func() { enter(t, v, order(9, 9, api.Buy, api.Market, 0, 1), api.Report{Filled: 1, First: 3, Count: 1}) },
		func() { wantErrno(t, "Correct", v.Correct(3, 57), api.OK) },
		func() { bust(t, v, 3, false) },
	} {
		act()
		after := v.Tape(0)
		if !slices.Equal(after[:len(before)], before) {
			t.Errorf("the tape began with\n%+v, and now with\n%+v", before, after)
		}
		before = after
	}
	if len(before) != 9 {
		t.Errorf("the tape has %d records, want 9", len(before))
	}
}

// spoil writes over a list and its spare room.
func spoil[T any](list []T, with T) {
	list = list[:cap(list)]
	for i := range list {
		list[i] = with
	}
}

// Lists of trades and records are the caller's: also their spare room is of no other list and not of the venue.
func TestTradesAndTapeAreNewMemory(t *testing.T) {
	v := manyRecords(t)
	before := picture(v, []string{"A", "Α"}, []int{1, 2, 3})
	trades, records := [][]api.Trade{}, [][]api.Record{}
	for from := range 10 {
		trades = append(trades, v.Trades())
		records = append(records, v.Tape(from))
	}
	for i := range 10 {
		spoil(trades[i], api.Trade{Number: -i - 1})
		spoil(records[i], api.Record{Number: -i - 1})
	}
	for i := range 10 {
		for _, x := range trades[i][:cap(trades[i])] {
			if x.Number != -i-1 {
				t.Errorf("trades %d share memory with %d", i, -x.Number-1)
			}
		}
		for _, x := range records[i][:cap(records[i])] {
			if x.Number != -i-1 {
				t.Errorf("records %d share memory with %d", i, -x.Number-1)
			}
		}
	}
	if after := picture(v, []string{"A", "Α"}, []int{1, 2, 3}); after != before {
		t.Errorf("a caller changed\n%sto\n%s", before, after)
	}
	// and a list stays as it came, when the venue goes on
	list := v.Tape(1)
	kept := slices.Clone(list)
	bust(t, v, 17, true)
	v.Close()
	if !slices.Equal(list, kept) {
		t.Error("a list changed when the venue went on")
	}
}

func TestTradesOfVenuesApart(t *testing.T) {
	v, w := exampleOfTwoTrades(t), exampleOfTwoTrades(t)
	v.Close()
	bust(t, w, 1, true)
	wantErrno(t, "Correct in the other", w.Correct(2, 9), api.OK)
	hold(t, v, of(1, 100, 5, 3, 1, 1), of(2, 101, 2, 3, 2, 1))
	hold(t, w, of(2, 9, 2, 3, 2, 1))
	if len(v.Tape(3)) != 1 || len(w.Tape(3)) != 2 {
		t.Errorf("Tape(3) = %+v and %+v", v.Tape(3), w.Tape(3))
	}
}
