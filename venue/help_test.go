package venue_test

import (
	"fmt"
	"slices"
	"strings"
	"testing"

	"venue/api"
	"venue/venue"
)

const tooLarge = api.MaxNumber + 1

// noNumbers: what is no price, no quantity, no id.
var noNumbers = []int{0, -1, tooLarge, 1 << 62, -1 << 63, 1<<63 - 1, 1<<32 + 1}

// opened makes a venue with these symbols. Whatever a test does with it, at its end one that is restored must be alike.
func opened(t *testing.T, symbols ...string) *venue.Venue {
	t.Helper()
	v := venue.New()
	for _, s := range symbols {
		wantErrno(t, "List "+s, v.List(s), api.OK)
	}
	t.Cleanup(func() { sameBackToTheBeginning(t, v, again(t, v)) })
	return v
}

func wantErrno(t *testing.T, what string, got, want api.Errno) {
	t.Helper()
	if got != want {
		t.Errorf("%s: error %d, want %d", what, got, want)
	}
}

// order makes one of the symbol A.
func order(id, owner, side, kind, price, quantity int) api.Order {
	return api.Order{ID: id, Owner: owner, Symbol: "A", Side: side, Kind: kind, Price: price, Quantity: quantity}
}

func enter(t *testing.T, v *venue.Venue, o api.Order, want api.Report) {
	t.Helper()
	if got, e := v.Enter(o); got != want || e != api.OK {
		t.Errorf("Enter(%+v) = %+v, %d, want %+v", o, got, e, want)
	}
}

// rest enters an order of which all must rest.
func rest(t *testing.T, v *venue.Venue, o api.Order) {
	t.Helper()
	enter(t, v, o, api.Report{Rests: o.Quantity})
}

func refuse(t *testing.T, v *venue.Venue, o api.Order, want api.Errno) {
	t.Helper()
	if got, e := v.Enter(o); got != (api.Report{}) || e != want {
		t.Errorf("Enter(%+v) = %+v, %d, want error %d", o, got, e, want)
	}
}

func replace(t *testing.T, v *venue.Venue, id, price, quantity int, want api.Report, wantE api.Errno) {
	t.Helper()
	if got, e := v.Replace(id, price, quantity); got != want || e != wantE {
		t.Errorf("Replace(%d, %d, %d) = %+v, %d, want %+v, %d", id, price, quantity, got, e, want, wantE)
	}
}

// counts holds what became of an order against: entered, open, filled, cancelled, expired.
func counts(t *testing.T, v *venue.Venue, id int, want ...int) {
	t.Helper()
	s, e := v.Status(id)
	if got := []int{s.Entered, s.Open, s.Filled, s.Cancelled, s.Expired}; !slices.Equal(got, want) || e != api.OK {
		t.Errorf("Status(%d) = %v, %d, want %v", id, got, e, want)
	}
}

// side holds a side of the book of A against levels.
func side(t *testing.T, v *venue.Venue, side int, want ...api.Level) {
	t.Helper()
	if got, e := v.Book("A", side); !slices.Equal(got, want) || e != api.OK {
		t.Errorf("Book(A, %d) = %v, %d, want %v", side, got, e, want)
	}
}

// picture tells all that can be asked of a venue with these symbols and ids.
func picture(v *venue.Venue, symbols []string, ids []int) string {
	return standing(v, symbols, ids) + fmt.Sprintf("%+v\n", v.Tape(0)) + v.Journal()
}

// standing tells what an Undo puts back: the books, the orders, the trades.
func standing(v *venue.Venue, symbols []string, ids []int) string {
	all := ""
	for _, s := range symbols {
		for _, side := range []int{api.Buy, api.Sell} {
			levels, e := v.Book(s, side)
			all += fmt.Sprintln("book", s, side, levels, e)
		}
	}
	for _, id := range ids {
		status, e := v.Status(id)
		all += fmt.Sprintf("%+v %d\n", status, e)
	}
	return all + fmt.Sprintf("%+v\n", v.Trades())
}

// of makes a trade of the symbol A.
func of(number, price, quantity, buy, sell, day int) api.Trade {
	return api.Trade{Number: number, Symbol: "A", Price: price, Quantity: quantity, Buy: buy, Sell: sell, Day: day}
}

// hold holds the trades that hold against these.
func hold(t *testing.T, v *venue.Venue, want ...api.Trade) {
	t.Helper()
	if got := v.Trades(); !slices.Equal(got, want) {
		t.Errorf("Trades() = %+v, want %+v", got, want)
	}
}

// told: a record without its number.
type told struct {
	kind  int
	trade api.Trade
}

// tape holds all records against these, which are numbered from 1 on.
func tape(t *testing.T, v *venue.Venue, want ...told) {
	t.Helper()
	var all []api.Record
	for i, w := range want {
		all = append(all, api.Record{Number: i + 1, Kind: w.kind, Trade: w.trade})
	}
	if got := v.Tape(1); !slices.Equal(got, all) {
		t.Errorf("Tape(1) =\n%+v, want\n%+v", got, all)
	}
}

// restored makes a venue of a journal that must be right.
func restored(t *testing.T, journal string) *venue.Venue {
	t.Helper()
	v, e, line := venue.Restore(journal)
	if v == nil || e != api.OK || line != 0 {
		t.Fatalf("Restore(%.2000q) gives a venue: %t; %d, %d", journal, v != nil, e, line)
	}
	return v
}

// again gives a venue that is made of the journal of another, and must answer everything as that does.
func again(t *testing.T, v *venue.Venue) *venue.Venue {
	t.Helper()
	w := restored(t, v.Journal())
	same(t, v, w)
	return w
}

// same holds all that can be asked of two venues with the same acts against each other.
func same(t *testing.T, v, w *venue.Venue) {
	t.Helper()
	symbols, ids := mentioned(v.Journal())
	if got, want := picture(w, symbols, ids), picture(v, symbols, ids); got != want {
		t.Errorf("of two that must be alike one tells\n%sthe other\n%s", want, got)
	}
}

// sameBackToTheBeginning undoes all acts of two venues that must be alike.
func sameBackToTheBeginning(t *testing.T, v, w *venue.Venue) {
	t.Helper()
	for e := api.OK; e == api.OK; {
		e = v.Undo()
		wantErrno(t, "Undo", w.Undo(), e)
	}
	same(t, v, w)
}

// mentioned gives the symbols and the ids that a journal has, and some that it has not.
func mentioned(journal string) (symbols []string, ids []int) {
	symbols, ids = []string{"NONE"}, []int{0, api.MaxNumber, tooLarge}
	for line := range strings.Lines(journal) {
		name, id := "", 0
		if n, _ := fmt.Sscanf(line, "list %s", &name); n == 1 {
			symbols = append(symbols, name)
		}
		if n, _ := fmt.Sscanf(line, "enter %d", &id); n == 1 {
			ids = append(ids, id)
		}
	}
	return symbols, ids
}
