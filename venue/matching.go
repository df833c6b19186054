package venue

import (
	"venue/api"
	"venue/book"
)

// come lets an order that is in no book trade with what is good for it; what is left rests or is cancelled.
func (v *Venue) come(b *book.Book, o *book.Order) api.Report {
	before, trades := o.Status, len(v.trades)
	v.match(b, o)
	if o.Open > 0 && o.Rests() {
		v.note(b.Rest(o))
	} else {
		v.note(o.CancelOpen())
	}
	r := api.Report{Filled: o.Filled - before.Filled, Rests: o.Open, Cancelled: o.Cancelled - before.Cancelled}
	if len(v.trades) > trades {
		r.First, r.Count = trades+1, len(v.trades)-trades
	}
	return r
}

// match lets an order meet those that are good for it, by rank, as long as some of it is left.
func (v *Venue) match(b *book.Book, o *book.Order) {
	for o.Open > 0 {
		waits := b.FirstGood(o.Order)
		if waits == nil {
			return
		}
		if waits.Order.Owner == o.Order.Owner {
			v.note(b.Leave(waits), waits.CancelOpen())
			continue
		}
		v.trade(b, o, waits)
	}
}

// trade lets an order that comes and one that waits trade as much as both have, at the price of the one that waits.
func (v *Venue) trade(b *book.Book, comes, waits *book.Order) {
	quantity := min(comes.Open, waits.Open)
	v.note(comes.Fill(quantity), waits.Fill(quantity))
	if waits.Open == 0 {
		v.note(b.Leave(waits))
	}
	buys, sells := comes, waits
	if comes.Order.Side == api.Sell {
		buys, sells = waits, comes
	}
	v.addTrade(api.Trade{
		Symbol: b.Symbol, Price: waits.Order.Price, Quantity: quantity,
		Buy: buys.Order.ID, Sell: sells.Order.ID,
	})
}
