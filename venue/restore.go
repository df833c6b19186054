package venue

import (
	"strconv"
	"strings"

	"venue/api"
)

const (
	mostWords  = 8 // those of a line that enters an order
	mostDigits = 9
)

// redo does the act that a line tells of. It tells whether the line has the form and the act gave no error.
func (v *Venue) redo(line string) bool {
	w := wordsOf(line)
	switch w.next() {
	case "list":
		name := w.next()
		return w.areRead() && v.List(name) == api.OK
	case "enter":
		return v.redoEnter(w)
	case "cancel":
		id := w.number()
		return w.areRead() && v.Cancel(id) == api.OK
	case "replace":
		return v.redoReplace(w)
	case "bust":
		trade, again := w.number(), w.yesOrNo()
		return w.areRead() && v.Bust(trade, again) == api.OK
	case "correct":
		trade, price := w.number(), w.number()
		return w.areRead() && v.Correct(trade, price) == api.OK
	case "close":
		return w.areRead() && v.redoClose()
	case "undo":
		return w.areRead() && v.Undo() == api.OK
	}
	return false
}

func (v *Venue) redoEnter(w *words) bool {
	o := api.Order{
		ID: w.number(), Owner: w.number(), Symbol: w.next(),
		Side: w.number(), Kind: w.number(), Price: w.number(), Quantity: w.number(),
	}
	if !w.areRead() {
		return false
	}
	_, e := v.Enter(o)
	return e == api.OK
}

func (v *Venue) redoReplace(w *words) bool {
	id, price, quantity := w.number(), w.number(), w.number()
	if !w.areRead() {
		return false
	}
	_, e := v.Replace(id, price, quantity)
	return e == api.OK
}

func (v *Venue) redoClose() bool {
	v.Close()
	return true
}

// words: those of a line that are still to read, and whether one that was read has not the form.
type words struct {
	left  []string
	wrong bool
}

// wordsOf gives the words of a line. Of a line with too many all that are too many stand in one, however many blanks
// it has: that is enough to tell that it has not the form.
func wordsOf(line string) *words {
	return &words{left: strings.SplitN(line, " ", mostWords+1)}
}

// next reads a word; where none is left, that is wrong.
func (w *words) next() string {
	if len(w.left) == 0 {
		w.wrong = true
		return ""
	}
	first := w.left[0]
	w.left = w.left[1:]
	return first
}

// number reads a word that must be a number, just as the journal writes it: no sign, no leading nought.
func (w *words) number() int {
	text := w.next()
	n, e := strconv.Atoi(text)
	if e != nil || n < 0 || len(text) > mostDigits || strconv.Itoa(n) != text {
		w.wrong = true
		return 0
	}
	return n
}

// yesOrNo reads a word that must be 1 or 0.
func (w *words) yesOrNo() bool {
	n := w.number()
	w.wrong = w.wrong || n > 1
	return n == 1
}

// areRead tells whether all words are read, and each had the form.
func (w *words) areRead() bool { return !w.wrong && len(w.left) == 0 }
