package venue

import (
	"slices"
	"strings"

	"venue/api"
	"venue/book"
)

// trade: what was traded, and whether it still holds.
type trade struct {
	api.Trade
	holds bool
}

// addTrade gives a trade its number and its day, and tells of it.
func (v *Venue) addTrade(t api.Trade) {
	t.Number, t.Day = len(v.trades)+1, v.day
	v.trades = append(v.trades, &trade{Trade: t, holds: true})
	v.tell(api.Print, t)
	v.note(func() {
		v.trades = slices.Delete(v.trades, t.Number-1, t.Number)
		v.tell(api.Bust, t)
	})
}

// setPrice gives a trade a price, and tells of it.
func (v *Venue) setPrice(t *trade, price int) {
	t.Price = price
	v.tell(api.Correct, t.Trade)
}

// tell adds a record to the tape. That is never put back: where an act is undone, it is answered by another record.
func (v *Venue) tell(kind int, t api.Trade) {
	v.tape = append(v.tape, api.Record{Number: len(v.tape) + 1, Kind: kind, Trade: t})
}

// toPutRight gives a trade that may be busted or corrected: the cases stand in the order of P7 and P8.
func (v *Venue) toPutRight(number int) (*trade, api.Errno) {
	if number < 1 || number > len(v.trades) {
		return nil, api.ErrUnknown
	}
	t := v.trades[number-1]
	switch {
	case !t.holds:
		return nil, api.ErrClosed
	case t.Day != v.day:
		return nil, api.ErrDay
	}
	return t, api.OK
}

// takeBack lets what a trade had of an order be filled no more: it is open again, or it is cancelled.
func (v *Venue) takeBack(o *book.Order, quantity int, again bool) {
	b := v.books[o.Order.Symbol]
	if !again || !o.Rests() || b.FirstGood(o.Order) != nil {
		v.note(o.CancelFilled(quantity))
		return
	}
	if o.Open > 0 {
		v.note(b.Leave(o)) // what was open already loses its place too
	}
	v.note(o.OpenFilled(quantity), b.Rest(o))
}

// handedOut gives a trade as it may leave the venue: it shares no memory with the one that is kept.
func handedOut(t api.Trade) api.Trade {
	t.Symbol = strings.Clone(t.Symbol)
	return t
}
