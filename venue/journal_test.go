package venue_test

import (
	"strconv"
	"strings"
	"testing"
	"unsafe"

	"venue/api"
	"venue/venue"
)

// writer: a venue, and the journal that it must have.
type writer struct {
	t    *testing.T
	v    *venue.Venue
	want string
}

// wrote holds the journal against what it was and these lines more.
func (w *writer) wrote(lines ...string) {
	w.t.Helper()
	for _, line := range lines {
		w.want += line + "\n"
	}
	if got := w.v.Journal(); got != w.want {
		w.t.Errorf("Journal() = %q, want %q", got, w.want)
		w.want = got
	}
}

// Each act has its line as soon as it is done, an Undo too; no line is ever taken out.
func TestJournalOfEachAct(t *testing.T) {
	w := &writer{t: t, v: venue.New()}
	v := w.v
	w.wrote()
	wantErrno(t, "List", v.List("A"), api.OK)
	w.wrote("list A")
	rest(t, v, order(1, 1, api.Sell, api.Limit, 100, 5))
	w.wrote("enter 1 1 A 1 0 100 5")
	rest(t, v, order(2, 2, api.Sell, api.Day, 101, 5))
	w.wrote("enter 2 2 A 1 1 101 5")
	enter(t, v, order(3, 3, api.Buy, api.Limit, 101, 7), api.Report{Filled: 7, First: 1, Count: 2})
	w.wrote("enter 3 3 A 0 0 101 7") // one line, however many trades come of it
	v.Close()
	w.wrote("close")
	undo(t, v)
	w.wrote("undo")
	bust(t, v, 1, true)
	w.wrote("bust 1 1")
	bust(t, v, 2, false)
	w.wrote("bust 2 0")
	undo(t, v)
	w.wrote("undo")
	correct(t, v, 2, 17)
	w.wrote("correct 2 17")
	correct(t, v, 2, 17) // the same price
	w.wrote("correct 2 17")
	replace(t, v, 2, 101, 2, api.Report{Rests: 2}, api.OK) // in its place
	w.wrote("replace 2 101 2")
	replace(t, v, 2, 99, 4, api.Report{Rests: 4}, api.OK)
	w.wrote("replace 2 99 4")
	cancel(t, v, 2)
	w.wrote("cancel 2")
	for range 10 { // the acts but the two that are undone already
		undo(t, v)
		w.wrote("undo")
	}
	nothingToUndo(t, v)
	w.wrote()
	wantErrno(t, "List", v.List("A"), api.OK)
	w.wrote("list A")
	again(t, v)
}

// The least and the greatest that each word of a line can have.
func TestJournalEdges(t *testing.T) {
	w := &writer{t: t, v: venue.New()}
	v := w.v
	names := []string{"0", "9", "A", "ΑΒΓΔΕΖ", "Ω", "ZΡΣ9ΩA"}
	for _, name := range names {
		wantErrno(t, "List "+name, v.List(name), api.OK)
		w.wrote("list " + name)
	}
	most := strconv.Itoa(api.MaxNumber)
	rest(t, v, order(1, 0, api.Buy, api.Limit, 1, 1))
	w.wrote("enter 1 0 A 0 0 1 1")
	rest(t, v, order(api.MaxNumber, 9, api.Sell, api.Post, api.MaxNumber, api.MaxNumber))
	w.wrote("enter " + most + " 9 A 1 4 " + most + " " + most)
	for i, name := range names {
		o := api.Order{ID: i + 2, Owner: i, Symbol: name, Side: i % 2, Kind: api.Now, Price: 10 - i, Quantity: 100}
		enter(t, v, o, api.Report{Cancelled: 100})
		w.wrote("enter " + strconv.Itoa(i+2) + " " + strconv.Itoa(i) + " " + name + " " + strconv.Itoa(i%2) + " 2 " + strconv.Itoa(10-i) + " 100")
	}
	enter(t, v, order(10, 1, api.Buy, api.Market, 0, 1), api.Report{Filled: 1, First: 1, Count: 1})
	w.wrote("enter 10 1 A 0 5 0 1")
	enter(t, v, order(11, 1, api.Buy, api.Whole, api.MaxNumber, 2), api.Report{Filled: 2, First: 2, Count: 1})
	w.wrote("enter 11 1 A 0 3 " + most + " 2")
	replace(t, v, 1, 1, 1, api.Report{Rests: 1}, api.OK)
	w.wrote("replace 1 1 1")
	replace(t, v, api.MaxNumber, api.MaxNumber, api.MaxNumber, api.Report{Rests: api.MaxNumber}, api.OK)
	w.wrote("replace " + most + " " + most + " " + most)
	correct(t, v, 1, 1)
	w.wrote("correct 1 1")
	correct(t, v, 1, api.MaxNumber)
	w.wrote("correct 1 " + most)
	cancel(t, v, 1)
	w.wrote("cancel 1")
	cancel(t, v, api.MaxNumber)
	w.wrote("cancel " + most)
	same(t, v, restored(t, w.want))
}

// Trades have no greatest number: two orders trade as often as their trade is busted, and come again.
func TestJournalOfHighNumbersOfTrades(t *testing.T) {
	const trades = 1234
	w := &writer{t: t, v: venue.New()}
	v := w.v
	wantErrno(t, "List", v.List("A"), api.OK)
	rest(t, v, order(1, 1, api.Sell, api.Limit, 100, 1))
	rest(t, v, order(2, 2, api.Buy, api.Limit, 90, 2))
	w.wrote("list A", "enter 1 1 A 1 0 100 1", "enter 2 2 A 0 0 90 2")
	for n := 1; n <= trades; n++ {
		number := strconv.Itoa(n)
		replace(t, v, 2, 100, 2, api.Report{Filled: 1, Rests: 1, First: n, Count: 1}, api.OK)
		correct(t, v, n, n)
		replace(t, v, 2, 90, 1, api.Report{Rests: 1}, api.OK)
		bust(t, v, n, true)
		w.want += "replace 2 100 2\ncorrect " + number + " " + number + "\nreplace 2 90 1\nbust " + number + " 1\n"
	}
	w.wrote()
	sameBackToTheBeginning(t, v, again(t, v))
	w.wrote(strings.Split(strings.Repeat("undo\n", 3+4*trades-1)+"undo", "\n")...)
}

// What gave an error is not written, nor is a question.
func TestJournalLeavesOutErrorsAndQuestions(t *testing.T) {
	w := &writer{t: t, v: venue.New()}
	nothingToUndo(t, w.v)
	w.wrote()
	w.v = busy(t)
	w.want = w.v.Journal()
	refusedCalls(t, w.v)
	w.wrote()
	bust(t, w.v, 4, true)
	w.wrote("bust 4 1")
	wantErrno(t, "Bust", w.v.Bust(4, true), api.ErrClosed)
	wantErrno(t, "Correct", w.v.Correct(4, 5), api.ErrClosed)
	wantErrno(t, "Correct", w.v.Correct(3, 0), api.ErrRange)
	wantErrno(t, "Correct", w.v.Correct(3, tooLarge), api.ErrRange)
	w.wrote()
	for _, name := range []string{"B", "C", "D", "E"} {
		wantErrno(t, "List", w.v.List(name), api.OK)
		w.wrote("list " + name)
	}
	wantErrno(t, "List", w.v.List("F"), api.ErrLimit)
	w.wrote()
	picture(w.v, busySymbols, busyIDs)
	w.v.Book("NONE", 7)
	w.v.Status(-1)
	w.v.Tape(-1)
	w.wrote()
	if v, e, line := venue.Restore("undo\n"); v != nil || e != api.ErrJournal || line != 1 {
		t.Errorf("Restore of an Undo of nothing: %t, %d, %d", v != nil, e, line)
	}
	w.wrote()
}

func TestJournalLeavesOutOrdersAboveTheLimit(t *testing.T) {
	v := opened(t, "A")
	for id := 1; id <= api.MaxOrders; id++ {
		rest(t, v, order(id, 1, api.Buy, api.Limit, 1, 1))
	}
	w := &writer{t: t, v: v, want: v.Journal()}
	refuse(t, v, order(999, 1, api.Buy, api.Limit, 1, 1), api.ErrLimit)
	w.wrote()
	refuse(t, again(t, v), order(999, 1, api.Buy, api.Limit, 1, 1), api.ErrLimit)
	undo(t, v)
	rest(t, again(t, v), order(999, 1, api.Buy, api.Limit, 1, 1))
}

// What came out is new memory each time, and stays as it was when the venue goes on.
func TestJournalIsNewMemory(t *testing.T) {
	v := busy(t)
	first, second := v.Journal(), v.Journal()
	if first != second {
		t.Errorf("asked twice: %q, %q", first, second)
	}
	if unsafe.StringData(first) == unsafe.StringData(second) {
		t.Error("two answers share their memory")
	}
	kept := strings.Clone(first)
	undo(t, v)
	cancel(t, v, 1)
	if first != kept {
		t.Errorf("what was told as %q is now %q", kept, first)
	}
	if got := v.Journal(); got != kept+"undo\ncancel 1\n" {
		t.Errorf("Journal() = %q", got)
	}
}

// A name that was handed in for a List or an Enter is written as it was then.
func TestJournalKeepsNoTextOfTheCaller(t *testing.T) {
	v := venue.New()
	text := []byte("ΑΒ1")
	name := unsafe.String(&text[0], len(text))
	wantErrno(t, "List", v.List(name), api.OK)
	rest(t, v, api.Order{ID: 1, Symbol: name, Price: 1, Quantity: 1})
	copy(text, "XXXXXX")
	if got := v.Journal(); got != "list ΑΒ1\nenter 1 0 ΑΒ1 0 0 1 1\n" {
		t.Errorf("Journal() = %q", got)
	}
	rest(t, v, api.Order{ID: 2, Symbol: "ΑΒ1", Price: 1, Quantity: 1})
}

func TestJournalsOfVenuesApart(t *testing.T) {
	v, w := opened(t, "A"), opened(t, "Α")
	rest(t, v, order(1, 1, api.Buy, api.Limit, 1, 1))
	w.Close()
	if got := v.Journal(); got != "list A\nenter 1 1 A 0 0 1 1\n" {
		t.Errorf("Journal() of one = %q", got)
	}
	if got := w.Journal(); got != "list Α\nclose\n" {
		t.Errorf("Journal() of the other = %q", got)
	}
}
