package venue_test

import (
	"fmt"
	"regexp"
	"slices"
	"strings"
	"sync"
	"testing"
	"unsafe"

	"venue/api"
	"venue/venue"
)

// notRestored: a journal is refused at that line.
func notRestored(t *testing.T, journal string, line int) {
	t.Helper()
	if v, e, got := venue.Restore(journal); v != nil || e != api.ErrJournal || got != line {
		t.Errorf("Restore(%.200q) gives a venue: %t; %d, %d, want ErrJournal, %d", journal, v != nil, e, got, line)
	}
}

// ahead: lines after which all acts are possible, and trade 1 is of an earlier day, trade 2 does not hold, trade 3 does;
// the orders 1 and 7 are open, the others are not.
const ahead = "list A\nlist ΑΒ1\nenter 1 1 A 1 0 100 9\nenter 2 2 A 0 0 100 3\nclose\n" +
	"enter 3 3 A 0 2 100 1\nbust 2 0\nenter 4 4 A 0 5 0 2\nenter 5 0 A 0 3 100 1\nundo\nenter 7 7 ΑΒ1 0 4 9 8\n"

// whole: all acts, some of them undone.
const whole = ahead + "enter 6 6 A 0 0 99 9\nenter 1000000 9 ΑΒ1 0 5 0 9\nreplace 1 1000000 1000000\nreplace 1 100 2\n" +
	"bust 3 0\nundo\nbust 3 1\nundo\ncorrect 3 7\nclose\nundo\nundo\ncancel 7\nclose\nundo\nlist ΩΩΩΩΩΩ\n"

// each: a line of each act, that may stand behind those ahead.
var each = []string{
	"list B", "list Ω", "enter 6 6 A 0 0 99 9", "enter 6 6 ΑΒ1 0 5 0 9", "cancel 1", "replace 1 100 2", "bust 3 0", "bust 3 1",
	"correct 3 7", "close", "undo",
}

// The first example of the document, with a venue that is left behind for one of its journal ahead of each act.
func TestRestoredVenueExample(t *testing.T) {
	const symbol = "ΑΒ1"
	v := restored(t, "list ΑΒ1\n")
	act := func(line string) {
		t.Helper()
		was := v.Journal()
		same(t, v, restored(t, was+line)) // torn
		v = restored(t, was+line+"\n")
		if got := v.Journal(); got != was+line+"\n" {
			t.Errorf("Journal() = %q, want %q and a line %s", got, was, line)
		}
	}
	sells := func(want ...api.Level) {
		t.Helper()
		if got, e := v.Book(symbol, api.Sell); !slices.Equal(got, want) || e != api.OK {
			t.Errorf("Book(%s, Sell) = %v, %d, want %v", symbol, got, e, want)
		}
	}
	sells()
	act("enter 1 1 ΑΒ1 1 0 100 5")
	act("enter 2 2 ΑΒ1 1 1 101 5")
	sells(api.Level{Price: 100, Quantity: 5, Orders: 1}, api.Level{Price: 101, Quantity: 5, Orders: 1})
	act("enter 3 3 ΑΒ1 0 0 101 7")
	first := api.Trade{Number: 1, Symbol: symbol, Price: 100, Quantity: 5, Buy: 3, Sell: 1, Day: 1}
	second := api.Trade{Number: 2, Symbol: symbol, Price: 101, Quantity: 2, Buy: 3, Sell: 2, Day: 1}
	hold(t, v, first, second)
	counts(t, v, 3, 7, 0, 7, 0, 0)
	sells(api.Level{Price: 101, Quantity: 3, Orders: 1})
	act("close")
	counts(t, v, 2, 5, 0, 2, 0, 3)
	notRestored(t, v.Journal()+"bust 1 1\n", 6)
	wantErrno(t, "Bust", v.Bust(1, true), api.ErrDay)
	act("undo")
	act("bust 1 1")
	counts(t, v, 3, 7, 0, 2, 5, 0)
	counts(t, v, 1, 5, 5, 0, 0, 0)
	sells(api.Level{Price: 100, Quantity: 5, Orders: 1}, api.Level{Price: 101, Quantity: 3, Orders: 1})
	tape(t, v, told{api.Print, first}, told{api.Print, second}, ended(1), told{api.Bust, first})
	act("undo")
	tape(t, v, told{api.Print, first}, told{api.Print, second}, ended(1), told{api.Bust, first}, told{api.Print, first})
	hold(t, v, first, second)
	for range 4 { // back to the beginning
		undo(t, v)
	}
	nothingToUndo(t, v)
	hold(t, v)
	tape(t, v, told{api.Print, first}, told{api.Print, second}, ended(1), told{api.Bust, first}, told{api.Print, first},
		told{api.Bust, second}, told{api.Bust, first})
}

// The second example: the report of an act is that of a restored venue too.
func TestRestoredVenueExampleOfOneOwner(t *testing.T) {
	v := restored(t, "list A\nenter 1 1 A 1 0 100 5\nenter 2 2 A 1 0 100 3\n")
	enter(t, v, order(4, 1, api.Buy, api.Now, 100, 9), api.Report{Filled: 3, Cancelled: 6, First: 1, Count: 1})
	counts(t, v, 1, 5, 0, 0, 5, 0)
	w := again(t, v)
	undo(t, w)
	counts(t, w, 1, 5, 5, 0, 0, 0)
	side(t, w, api.Sell, api.Level{Price: 100, Quantity: 8, Orders: 2})
}

// Each act with a restored venue answers, tells and is undone as with the one that wrote the journal, and leaves a
// venue that can be restored; the ranks of all orders are the same.
func TestRestoredVenueGoesOn(t *testing.T) {
	for _, act := range append(actsThatTrade(), actsThatDoNotTrade()...) {
		v := busy(t)
		w := again(t, v)
		refusedCalls(t, w)
		if got := act.do(w); got != act.answer {
			t.Errorf("%s: %+v, want %+v", act.name, got, act.answer)
		}
		act.do(v)
		same(t, v, w)
		x := again(t, w)
		if got, want := drained(x), drained(w); got != want {
			t.Errorf("%s: the orders trade as\n%swant\n%s", act.name, got, want)
		}
		same(t, w, x)
		undo(t, v)
		for range 50 {
			undo(t, x)
		}
		if got, want := standing(x, busySymbols, busyIDs), standing(v, busySymbols, busyIDs); got != want {
			t.Errorf("%s, undone:\n%swant\n%s", act.name, got, want)
		}
		sameBackToTheBeginning(t, x, again(t, x))
	}
}

// Every first part of a journal gives the venue as it was behind the last line that is whole.
func TestRestoreOfEveryFirstPart(t *testing.T) {
	symbols, ids := mentioned(whole)
	v := venue.New()
	lines := 0
	for cut := range len(whole) + 1 {
		first := whole[:cut]
		if strings.HasSuffix(first, "\n") {
			lines++
			line := strings.Split(first, "\n")[lines-1]
			if !done(v, line) {
				t.Fatalf("line %d, %s, gives an error", lines, line)
			}
		}
		w := restored(t, first)
		if got, want := picture(w, symbols, ids), picture(v, symbols, ids); got != want {
			t.Fatalf("restored of the first %d bytes:\n%swant\n%s", cut, got, want)
		}
		if got := w.Journal(); got != first[:strings.LastIndex(first, "\n")+1] {
			t.Fatalf("restored of the first %d bytes it tells the journal %q", cut, got)
		}
	}
	if lines != strings.Count(whole, "\n") || v.Journal() != whole {
		t.Errorf("Journal() = %q, want %q", v.Journal(), whole)
	}
}

// Without a byte 10 there is no line, whatever the text is; behind the last one all is left out.
func TestRestoreLeavesOutWhatIsTorn(t *testing.T) {
	for _, torn := range []string{
		"", " ", "x", "undo", "list A", "close", "cancel 1", "\r", "\x00", "\xff\xfe", "list A\r", "bust 3 1", "10", "\\n",
		strings.Repeat("close ", 1000000),
	} {
		v := restored(t, torn)
		if got := v.Journal(); got != "" {
			t.Errorf("restored of %.20q it tells the journal %q", torn, got)
		}
		same(t, venue.New(), v)
		nothingToUndo(t, v)
		w := restored(t, ahead+torn)
		if got := w.Journal(); got != ahead {
			t.Errorf("restored of some lines and %.20q it tells the journal %q", torn, got)
		}
		same(t, restored(t, ahead), w)
	}
}

// spoiledLines gives a line in each way in which it can have another form.
func spoiledLines(line string) []string {
	words := strings.Split(line, " ")
	with := func(i int, word string) string {
		other := slices.Clone(words)
		other[i] = word
		return strings.Join(other, " ")
	}
	all := []string{
		line + " ", " " + line, "\t" + line, line + "\t", line + "\r", line + "\x00", line + ";", "\ufeff" + line, line + "\u00a0",
		line + " 1", line + " 0", line + " A", line + " " + line, line + line, line + " 1 1 1 1 1 1 1 1 1",
		line + strings.Repeat(" ", 100000), strings.ToUpper(line), strings.ToUpper(line[:1]) + line[1:], line + "s",
		strings.ReplaceAll(line, " ", ", "), strings.TrimPrefix(line, words[0]), strings.TrimPrefix(line, words[0]+" "),
	}
	for i, word := range words {
		all = append(all,
			strings.Join(slices.Delete(slices.Clone(words), i, i+1), " "), // too few
			strings.Join(slices.Insert(slices.Clone(words), i, word), " "),
			strings.Join(slices.Insert(slices.Clone(words), i, "7"), " "),
			strings.Join(slices.Insert(slices.Clone(words), i, "A"), " "),
			strings.Join(slices.Insert(slices.Clone(words), i, ""), " "), // two blanks
			strings.Join(words[:i], " "),
			with(i, ""), with(i, "\""+word+"\""), with(i, word+"\x00"), with(i, word+"\v"), with(i, "x"))
		if i > 0 && '0' <= word[0] && word[0] <= '9' {
			for _, other := range []string{
				"0" + word, "00" + word, "+" + word, "-" + word, word + ".", word + ".0", word + "e0", "0x" + word, word + "_0", "_" + word,
				"2", "10", "-0", "+0", "00", "-1", "−1", "٣", "٠", "１", "false", "true", "1a", "a", "Α", "0b1", "0o7", "1e0", "1_0", "1,0",
				"1000000000", "9999999999", "0000000000", strings.Repeat("0", 9) + word, strings.Repeat("9", 1000),
				"4294967296", "4294967297", "18446744073709551616", "18446744073709551617", "9223372036854775808", "-9223372036854775808",
			} {
				all = append(all, with(i, other))
			}
		}
	}
	return slices.DeleteFunc(all, func(other string) bool { return other == line })
}

// Each way in which a line can have another form, on the first line and on a later one, whatever stands behind it.
func TestRestoreRefusesOtherForms(t *testing.T) {
	tried, later := 0, strings.Count(ahead, "\n")+1
	for _, line := range each {
		restored(t, ahead+line+"\n")
		for _, other := range append(spoiledLines(line), "", " ", "x", "list", "enter", "replace", "begin", "redo", "lis A", "#") {
			if form.MatchString(other) { // by chance it is another line that may be
				continue
			}
			tried++
			for _, behind := range []string{"\n", "\n" + line + "\n", "\n\n", "\nund"} {
				notRestored(t, other+behind, 1)
				notRestored(t, ahead+other+behind, later)
				notRestored(t, "close\nundo\n"+other+behind, 3)
			}
		}
	}
	if tried < 1000 {
		t.Errorf("only %d lines of another form were tried", tried)
	}
}

// Each error that the act of a line can give, and the number of the line, whatever stands behind it.
func TestRestoreRefusesErrors(t *testing.T) {
	later := strings.Count(ahead, "\n") + 1
	six := ahead + "list C\nlist D\nlist E\nlist F\n"
	for _, c := range []struct{ ahead, line string }{
		{ahead, "list a"}, {ahead, "list ABCDEFG"}, {ahead, "list ΑΒΓΔΕΖΗ"}, {ahead, "list \u03a2"}, {ahead, "list α"}, {ahead, "list \xce"},
		{ahead, "list A"}, {ahead, "list ΑΒ1"}, {six, "list G"},
		{ahead, "enter 0 1 A 0 0 1 1"}, {ahead, "enter 1000001 1 A 0 0 1 1"}, {ahead, "enter 999999999 1 A 0 0 1 1"},
		{ahead, "enter 1 1 A 0 0 1 1"}, {ahead, "enter 4 4 A 0 0 1 1"},
		{ahead, "enter 6 10 A 0 0 1 1"}, {ahead, "enter 6 1 A 2 0 1 1"}, {ahead, "enter 6 1 A 0 6 1 1"},
		{ahead, "enter 6 1 A 0 0 0 1"}, {ahead, "enter 6 1 A 0 0 1000001 1"}, {ahead, "enter 6 1 A 0 0 1 0"}, {ahead, "enter 6 1 A 0 0 1 1000001"},
		{ahead, "enter 6 1 A 0 5 1 1"}, {ahead, "enter 6 1 B 0 0 1 1"}, {ahead, "enter 6 1 Α 0 0 1 1"}, {ahead, "enter 6 1 a 0 0 1 1"},
		{ahead, "enter 6 2 A 0 4 100 1"}, {ahead, "enter 6 2 A 0 3 100 10"}, {ahead, "enter 6 2 A 0 3 99 1"},
		{ahead, "cancel 6"}, {ahead, "cancel 0"}, {ahead, "cancel 2"}, {ahead, "cancel 4"}, {ahead + "cancel 1\n", "cancel 1"},
		{ahead, "replace 6 1 1"}, {ahead, "replace 0 1 1"}, {ahead, "replace 2 1 1"}, {ahead, "replace 1 0 1"}, {ahead, "replace 1 1000001 1"},
		{ahead, "replace 1 1 0"}, {ahead, "replace 1 1 1000001"}, {ahead, "replace 1 999999999 999999999"},
		{ahead, "bust 0 0"}, {ahead, "bust 4 1"}, {ahead, "bust 999999999 1"}, {ahead, "bust 1 1"}, {ahead, "bust 1 0"}, {ahead, "bust 2 1"},
		{ahead + "bust 3 1\n", "bust 3 1"}, {ahead + "close\n", "bust 3 1"},
		{ahead, "correct 0 1"}, {ahead, "correct 4 1"}, {ahead, "correct 1 1"}, {ahead, "correct 2 1"}, {ahead, "correct 3 0"}, {ahead, "correct 3 1000001"},
		{ahead + "undo\nundo\nundo\nundo\nundo\nundo\nundo\nundo\nundo\n", "undo"}, {ahead + "undo\nundo\n", "bust 3 1"},
		{"close\nundo\n", "undo"}, {"list A\nundo\n", "enter 1 1 A 0 0 1 1"},
	} {
		restored(t, c.ahead)
		want := strings.Count(c.ahead, "\n") + 1
		notRestored(t, c.ahead+c.line+"\n", want)
		notRestored(t, c.ahead+c.line+"\nclose\n", want)
		notRestored(t, c.ahead+c.line+"\n"+c.line+"\nx\n\n", want)
		restored(t, c.ahead+c.line) // torn
		restored(t, c.ahead+"close\nundo\n"+c.line)
	}
	for _, line := range each {
		if line != "close" && !strings.HasPrefix(line, "list ") {
			notRestored(t, line+"\n", 1) // there is nothing yet
			notRestored(t, line+"\n"+ahead, 1)
		}
	}
	notRestored(t, ahead+ahead, later) // the same symbol
}

// MaxOrders orders can be restored, one more can't.
func TestRestoreUpToTheLimitOfOrders(t *testing.T) {
	lines := "list A\n"
	for id := 1; id <= api.MaxOrders; id++ {
		lines += fmt.Sprintf("enter %d 1 A 0 0 1 1\n", id)
	}
	v := restored(t, lines)
	side(t, v, api.Buy, api.Level{Price: 1, Quantity: api.MaxOrders, Orders: api.MaxOrders})
	notRestored(t, lines+"enter 201 1 A 0 0 1 1\n", api.MaxOrders+2)
	same(t, restored(t, lines+"undo\nenter 201 1 A 0 0 1 1\n"), restored(t, lines+"undo\nenter 201 1 A 0 0 1 1\nenter 202"))
}

// Of one journal several venues can be made: they know nothing of one another, nor of the one that wrote it.
func TestRestoreSeveralVenues(t *testing.T) {
	u := busy(t)
	journal := u.Journal()
	v, w, x := restored(t, journal), restored(t, journal), restored(t, journal)
	for range 3 {
		undo(t, v)
	}
	same(t, u, w)
	bust(t, w, 4, true)
	drained(w)
	same(t, u, x)
	v.Close()
	drained(u)
	same(t, x, restored(t, journal))
	same(t, w, restored(t, journal+strings.TrimPrefix(w.Journal(), journal)))
	same(t, v, restored(t, journal+"undo\nundo\nundo\nclose\n"))
	spoil(v.Tape(1), api.Record{Number: -1})
	spoil(v.Trades(), api.Trade{Number: -1})
	same(t, v, restored(t, journal+"undo\nundo\nundo\nclose\n"))
	same(t, x, restored(t, journal))
}

func TestRestoreAtTheSameTime(t *testing.T) {
	journal := busy(t).Journal()
	pictures := make([]string, 8)
	var group sync.WaitGroup
	for i := range pictures {
		group.Add(1)
		go func() {
			defer group.Done()
			v, _, _ := venue.Restore(journal)
			pictures[i] = drained(v) + picture(v, busySymbols, busyIDs)
		}()
	}
	group.Wait()
	for i, p := range pictures {
		if p != pictures[0] || p == "" {
			t.Errorf("venue %d tells\n%sthe first\n%s", i, p, pictures[0])
		}
	}
}

// The text that is handed in is neither changed nor kept.
func TestRestoreKeepsNoTextOfTheCaller(t *testing.T) {
	text := []byte(whole + "undo")
	kept := string(text)
	v := restored(t, unsafe.String(&text[0], len(text)))
	if string(text) != kept {
		t.Errorf("the text is now %q", text)
	}
	for i := range text {
		text[i] = 'x'
	}
	same(t, restored(t, kept), v)
	drained(v)
	sameBackToTheBeginning(t, v, again(t, v))
}

// Long texts end too.
func TestRestoreOfLongTexts(t *testing.T) {
	long := strings.Repeat("close\nundo\n", 100000)
	v := restored(t, long)
	if v.Journal() != long || len(v.Tape(1)) != 100000 {
		t.Errorf("%d records, %d bytes of journal", len(v.Tape(1)), len(v.Journal()))
	}
	nothingToUndo(t, v)
	notRestored(t, long+"undo\n", 200001)
	notRestored(t, long+"\n", 200001)
	for _, piece := range []string{"\n", " ", "x", "9", "\xff", "list ", "Ω", "1 "} {
		many := strings.Repeat(piece, 1000000)
		notRestored(t, many+"\n", 1)
		notRestored(t, "close\nlist "+many+"\n", 2)
		notRestored(t, "close\ncancel "+many+"\n", 2)
		notRestored(t, "close\n"+many+"\n", 2)
	}
}

// form: the document's, once more, in another way.
var form = func() *regexp.Regexp {
	text := "^(list NAME|enter N N NAME N N N N|cancel N|replace N N N|bust N [01]|correct N N|close|undo)$"
	text = strings.ReplaceAll(text, "NAME", "[A-Z0-9Α-ΡΣ-Ω]{1,6}")
	return regexp.MustCompile(regexp.MustCompile(`\bN\b`).ReplaceAllString(text, "(?:0|[1-9][0-9]{0,8})"))
}()

// done does the act that a line tells of by the venue's calls; false, if it has not the form or gives an error.
func done(v *venue.Venue, line string) bool {
	if !form.MatchString(line) {
		return false
	}
	var a, b, c int
	var o api.Order
	e := api.OK
	switch word, rest, _ := strings.Cut(line, " "); word {
	case "list":
		e = v.List(rest)
	case "enter":
		fmt.Sscan(rest, &o.ID, &o.Owner, &o.Symbol, &o.Side, &o.Kind, &o.Price, &o.Quantity)
		_, e = v.Enter(o)
	case "cancel":
		fmt.Sscan(rest, &a)
		e = v.Cancel(a)
	case "replace":
		fmt.Sscan(rest, &a, &b, &c)
		_, e = v.Replace(a, b, c)
	case "bust":
		fmt.Sscan(rest, &a, &b)
		e = v.Bust(a, b == 1)
	case "correct":
		fmt.Sscan(rest, &a, &b)
		e = v.Correct(a, b)
	case "close":
		v.Close()
	default:
		e = v.Undo()
	}
	return e == api.OK
}

// restoresAsDone holds what Restore makes of any text against the same acts, done one by one.
func restoresAsDone(t *testing.T, text string) {
	t.Helper()
	v := venue.New()
	lines := strings.Split(text, "\n")
	for i, line := range lines[:len(lines)-1] {
		if !done(v, line) {
			notRestored(t, text, i+1)
			return
		}
	}
	same(t, v, restored(t, text))
}

// A journal with one byte more, less or another, anywhere; and with lines that have changed their places.
func TestRestoreOfSpoiledJournals(t *testing.T) {
	journal := ahead + "cancel 1\nreplace 7 10 9\nlist Ω\nbust 3 1\nundo\ncorrect 3 10\n"
	restored(t, journal)
	for i := range len(journal) {
		restoresAsDone(t, journal[:i]+journal[i+1:])
		for _, other := range []string{" ", "\n", "\r", "\t", "0", "1", "9", "-", "+", "A", "a", "\xce", "\x00", ".", "\xff"} {
			restoresAsDone(t, journal[:i]+other+journal[i:])
			restoresAsDone(t, journal[:i]+other+journal[i+1:])
		}
	}
	lines := strings.SplitAfter(journal, "\n")
	for i := range lines {
		for k := range lines {
			moved := slices.Clone(lines)
			moved[i], moved[k] = moved[k], moved[i]
			restoresAsDone(t, strings.Join(moved, ""))
			restoresAsDone(t, strings.Join(slices.Insert(slices.Clone(lines), i, lines[k]), ""))
		}
		restoresAsDone(t, strings.Join(slices.Delete(slices.Clone(lines), i, i+1), ""))
	}
}

func FuzzRestore(f *testing.F) {
	for _, line := range each {
		f.Add(ahead + line + "\n")
	}
	f.Add("")
	f.Add("close\nundo\nundo\n")
	f.Fuzz(restoresAsDone)
}
