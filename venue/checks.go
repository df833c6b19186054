package venue

import "venue/api"

// isName tells whether a text is a name of a symbol.
func isName(text string) bool {
	length := 0
	for _, letter := range text {
		length++
		if length > api.MaxName || !isLetter(letter) {
			return false
		}
	}
	return length > 0
}

// isLetter tells whether a name may have this rune. Broken UTF-8 comes as U+FFFD, which it may not.
func isLetter(r rune) bool {
	switch {
	case 'A' <= r && r <= 'Z', '0' <= r && r <= '9':
		return true
	case r == '\u03a2': // no letter stands there
		return false
	}
	return '\u0391' <= r && r <= '\u03a9'
}

// isNumber tells whether a number is a price, a quantity, an id.
func isNumber(n int) bool { return 1 <= n && n <= api.MaxNumber }

func isOwner(n int) bool { return 0 <= n && n <= api.MaxOwner }

func isSide(n int) bool { return n == api.Buy || n == api.Sell }

func isKind(n int) bool { return api.Limit <= n && n <= api.Market }

// isPriceOf tells whether an order of that kind may have the price.
func isPriceOf(kind, price int) bool {
	if kind == api.Market {
		return price == 0
	}
	return isNumber(price)
}

// refusal tells why an order may not come: the cases stand in the order of P4.
func (v *Venue) refusal(o api.Order) api.Errno {
	b := v.books[o.Symbol]
	switch {
	case !isNumber(o.ID):
		return api.ErrID
	case v.orders[o.ID] != nil:
		return api.ErrTaken
	case !isOwner(o.Owner) || !isSide(o.Side):
		return api.ErrRange
	case !isKind(o.Kind):
		return api.ErrKind
	case !isNumber(o.Quantity) || !isPriceOf(o.Kind, o.Price):
		return api.ErrRange
	case b == nil:
		return api.ErrUnknown
	case len(v.orders) >= api.MaxOrders:
		return api.ErrLimit
	case o.Kind == api.Post && b.FirstGood(o) != nil:
		return api.ErrCross
	case o.Kind == api.Whole && b.Supply(o) < o.Quantity:
		return api.ErrWhole
	}
	return api.OK
}
