package venue

import (
	"strconv"

	"venue/api"
)

// write adds a line to the journal. As with the tape, that is never put back: an Undo has a line of its own.
func (v *Venue) write(line string) {
	v.journal = append(append(v.journal, line...), '\n')
}

// lineOf gives a word with numbers behind it, as a line or a part of one.
func lineOf(word string, numbers ...int) string {
	for _, n := range numbers {
		word += " " + strconv.Itoa(n)
	}
	return word
}

func lineOfEnter(o api.Order) string {
	return lineOf("enter", o.ID, o.Owner) + " " + lineOf(o.Symbol, o.Side, o.Kind, o.Price, o.Quantity)
}

func lineOfBust(trade int, again bool) string {
	if again {
		return lineOf("bust", trade, 1)
	}
	return lineOf("bust", trade, 0)
}
