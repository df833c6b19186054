// Package venue: a market whose every act can be undone, and whose tape is put right: see DOC.md.
package venue

import (
	"slices"
	"strings"

	"venue/api"
	"venue/book"
)

// Venue: symbols, orders, trades, the tape, the journal.
type Venue struct {
	books   map[string]*book.Book // by symbol
	orders  map[int]*book.Order   // by id; also those of which nothing is open
	trades  []*trade              // by number, from 1 on; also those that hold no longer
	tape    []api.Record          // by number, from 1 on
	day     int
	acts    []act // those that are not undone
	journal []byte
}

// New makes a venue without anything.
func New() *Venue {
	return &Venue{books: map[string]*book.Book{}, orders: map[int]*book.Order{}, day: 1}
}

// Restore makes a venue of a journal (P12).
func Restore(journal string) (*Venue, api.Errno, int) {
	v := New()
	whole := journal[:strings.LastIndexByte(journal, '\n')+1] // what stands behind it is torn
	number := 0
	for line := range strings.Lines(whole) {
		number++
		if !v.redo(strings.TrimSuffix(line, "\n")) {
			return nil, api.ErrJournal, number
		}
	}
	return v, api.OK, 0
}

// List lets a symbol be traded (P3).
func (v *Venue) List(symbol string) api.Errno {
	switch {
	case !isName(symbol):
		return api.ErrName
	case v.books[symbol] != nil:
		return api.ErrTaken
	case len(v.books) >= api.MaxSymbols:
		return api.ErrLimit
	}
	own := strings.Clone(symbol) // the caller's text may be a piece of a long one, and is not kept
	v.begin("list " + own)
	v.books[own] = book.New(own)
	v.note(func() { delete(v.books, own) })
	return api.OK
}

// Enter lets an order come (P4).
func (v *Venue) Enter(o api.Order) (api.Report, api.Errno) {
	if e := v.refusal(o); e != api.OK {
		return api.Report{}, e
	}
	b := v.books[o.Symbol]
	o.Symbol = b.Symbol // the caller's text is not kept
	order := book.NewOrder(o)
	v.begin(lineOfEnter(o))
	v.orders[o.ID] = order
	v.note(func() { delete(v.orders, o.ID) })
	return v.come(b, order), api.OK
}

// Cancel cancels what is open of an order (P5).
func (v *Venue) Cancel(id int) api.Errno {
	o := v.orders[id]
	switch {
	case o == nil:
		return api.ErrUnknown
	case o.Open == 0:
		return api.ErrClosed
	}
	v.begin(lineOf("cancel", id))
	v.note(v.books[o.Order.Symbol].Leave(o), o.CancelOpen())
	return api.OK
}

// Replace gives an order another price and quantity (P6).
func (v *Venue) Replace(id int, price int, quantity int) (api.Report, api.Errno) {
	o := v.orders[id]
	switch {
	case o == nil:
		return api.Report{}, api.ErrUnknown
	case o.Open == 0:
		return api.Report{}, api.ErrClosed
	case !isNumber(price) || !isNumber(quantity):
		return api.Report{}, api.ErrRange
	}
	v.begin(lineOf("replace", id, price, quantity))
	if price == o.Order.Price && quantity <= o.Open {
		v.note(o.Amend(price, quantity)) // it keeps its place
		return api.Report{Rests: quantity}, api.OK
	}
	b := v.books[o.Order.Symbol]
	v.note(b.Leave(o), o.Amend(price, quantity))
	return v.come(b, o), api.OK
}

// Bust lets a trade hold no longer (P7).
func (v *Venue) Bust(trade int, again bool) api.Errno {
	t, e := v.toPutRight(trade)
	if e != api.OK {
		return e
	}
	v.begin(lineOfBust(trade, again))
	t.holds = false
	v.tell(api.Bust, t.Trade)
	v.note(func() {
		t.holds = true
		v.tell(api.Print, t.Trade)
	})
	v.takeBack(v.orders[t.Buy], t.Quantity, again)
	v.takeBack(v.orders[t.Sell], t.Quantity, again)
	return api.OK
}

// Correct gives a trade another price (P8).
func (v *Venue) Correct(trade int, price int) api.Errno {
	t, e := v.toPutRight(trade)
	switch {
	case e != api.OK:
		return e
	case !isNumber(price):
		return api.ErrRange
	}
	v.begin(lineOf("correct", trade, price))
	before := t.Price
	v.setPrice(t, price)
	v.note(func() { v.setPrice(t, before) })
	return api.OK
}

// Close ends the day (P9).
func (v *Venue) Close() {
	v.begin("close")
	for _, o := range v.orders { // in whatever order they leave, and are put back, all have their ranks
		if o.Order.Kind == api.Day && o.Open > 0 {
			v.note(v.books[o.Order.Symbol].Leave(o), o.ExpireOpen())
		}
	}
	v.tell(api.Close, api.Trade{Day: v.day})
	v.day++
	v.note(func() { v.day-- })
}

// Undo undoes the last act (P10).
func (v *Venue) Undo() api.Errno {
	last := len(v.acts) - 1
	if last < 0 {
		return api.ErrUndo
	}
	v.write("undo")
	v.acts[last].putBack()
	v.acts = slices.Delete(v.acts, last, last+1)
	return api.OK
}

// Status tells what became of an order (P11).
func (v *Venue) Status(id int) (api.Status, api.Errno) {
	o := v.orders[id]
	if o == nil {
		return api.Status{}, api.ErrUnknown
	}
	s := o.Status
	s.Order.Symbol = strings.Clone(s.Order.Symbol)
	return s, api.OK
}

// Book tells a side of a symbol's book (P11).
func (v *Venue) Book(symbol string, side int) ([]api.Level, api.Errno) {
	b := v.books[symbol]
	switch {
	case b == nil:
		return nil, api.ErrUnknown
	case !isSide(side):
		return nil, api.ErrRange
	}
	return b.Levels(side), api.OK
}

// Trades tells the trades that hold (P11).
func (v *Venue) Trades() []api.Trade {
	var all []api.Trade
	for _, t := range v.trades {
		if t.holds {
			all = append(all, handedOut(t.Trade))
		}
	}
	return all
}

// Tape tells the records from a number on (P11).
func (v *Venue) Tape(from int) []api.Record {
	from = max(from, 1)
	if from > len(v.tape) {
		return nil
	}
	records := slices.Clone(v.tape[from-1:])
	for i, r := range records {
		records[i].Trade = handedOut(r.Trade)
	}
	return records
}

// Journal tells all acts (P12).
func (v *Venue) Journal() string { return string(v.journal) }
