package venue_test

import (
	"fmt"
	"maps"
	"math/rand/v2"
	"slices"
	"testing"

	"venue/api"
	"venue/venue"
)

// model: the words of the document done as plainly as can be, without a heap: the open orders of a
// symbol lie in one list in the order in which they came there, and all of it is gone through each time; of all
// but the tape and the journal a copy is made ahead of each act, and taken again when the act is undone.
type model struct {
	state
	tape    []api.Record
	journal string
	past    []past
}

type state struct {
	names  []string
	open   map[string][]*api.Status
	orders map[int]*api.Status
	trades []api.Trade // all that ever were
	busted []int
	day    int
}

// past: what there was ahead of an act, and what the act told.
type past struct {
	was  state
	told []api.Record
}

func newModel() *model {
	return &model{state: state{open: map[string][]*api.Status{}, orders: map[int]*api.Status{}, day: 1}}
}

func (s state) copied() state {
	c := state{slices.Clone(s.names), map[string][]*api.Status{}, map[int]*api.Status{}, slices.Clone(s.trades), slices.Clone(s.busted), s.day}
	for id, o := range s.orders {
		own := *o
		c.orders[id] = &own
	}
	for name, open := range s.open {
		for _, o := range open {
			c.open[name] = append(c.open[name], c.orders[o.Order.ID])
		}
	}
	return c
}

// begin is called by each act as soon as it is known that there is no error.
func (m *model) begin(words ...any) {
	m.past = append(m.past, past{was: m.copied()})
	m.write(words...)
}

func (m *model) write(words ...any) { m.journal += fmt.Sprintln(words...) }

func (m *model) undo() api.Errno {
	if len(m.past) == 0 {
		return api.ErrUndo
	}
	m.write("undo")
	last := m.past[len(m.past)-1]
	m.past = m.past[:len(m.past)-1]
	m.state = last.was
	for _, x := range slices.Backward(last.told) {
		switch x.Kind {
		case api.Print:
			m.add(api.Bust, x.Trade)
		case api.Bust:
			m.add(api.Print, x.Trade)
		case api.Correct:
			m.add(api.Correct, m.trades[x.Trade.Number-1])
		}
	}
	return api.OK
}

func (m *model) list(name string, isName bool) api.Errno {
	if !isName {
		return api.ErrName
	}
	if slices.Contains(m.names, name) {
		return api.ErrTaken
	}
	if len(m.names) == api.MaxSymbols {
		return api.ErrLimit
	}
	m.begin("list", name)
	m.names = append(m.names, name)
	return api.OK
}

func isGood(o api.Order, waits *api.Status) bool {
	if o.Side == waits.Order.Side {
		return false
	}
	if o.Side == api.Buy {
		return o.Kind == api.Market || waits.Order.Price <= o.Price
	}
	return o.Kind == api.Market || waits.Order.Price >= o.Price
}

// goods gives the orders that are good, by rank.
func (m *model) goods(o api.Order) []*api.Status {
	var all []*api.Status
	for _, w := range m.open[o.Symbol] {
		if isGood(o, w) {
			all = append(all, w)
		}
	}
	slices.SortStableFunc(all, func(a, b *api.Status) int {
		if o.Side == api.Buy {
			return a.Order.Price - b.Order.Price
		}
		return b.Order.Price - a.Order.Price
	})
	return all
}

func outside(n, low, high int) bool { return n < low || n > high }

func (m *model) enter(o api.Order) (api.Report, api.Errno) {
	low, high := 1, api.MaxNumber
	if o.Kind == api.Market {
		low, high = 0, 0
	}
	supply := 0
	for _, w := range m.goods(o) {
		if w.Order.Owner != o.Owner {
			supply += w.Open
		}
	}
	for _, c := range []struct {
		applies bool
		e       api.Errno
	}{
		{outside(o.ID, 1, api.MaxNumber), api.ErrID},
		{m.orders[o.ID] != nil, api.ErrTaken},
		{outside(o.Owner, 0, api.MaxOwner), api.ErrRange},
		{outside(o.Side, 0, 1), api.ErrRange},
		{outside(o.Kind, 0, 5), api.ErrKind},
		{outside(o.Quantity, 1, api.MaxNumber), api.ErrRange},
		{outside(o.Price, low, high), api.ErrRange},
		{!slices.Contains(m.names, o.Symbol), api.ErrUnknown},
		{len(m.orders) == api.MaxOrders, api.ErrLimit},
		{o.Kind == api.Post && len(m.goods(o)) > 0, api.ErrCross},
		{o.Kind == api.Whole && supply < o.Quantity, api.ErrWhole},
	} {
		if c.applies {
			return api.Report{}, c.e
		}
	}
	m.begin("enter", o.ID, o.Owner, o.Symbol, o.Side, o.Kind, o.Price, o.Quantity)
	s := &api.Status{Order: o, Entered: o.Quantity}
	m.orders[o.ID] = s
	return m.come(s, o.Quantity), api.OK
}

func (m *model) come(s *api.Status, left int) api.Report {
	r := api.Report{}
	for _, w := range m.goods(s.Order) {
		if left == 0 {
			break
		}
		if w.Order.Owner == s.Order.Owner {
			m.close(w)
			continue
		}
		n := min(left, w.Open)
		left -= n
		s.Filled += n
		r.Filled += n
		w.Open -= n
		w.Filled += n
		m.print(s, w, n)
		r.Count++
		if r.First == 0 {
			r.First = len(m.trades)
		}
		if w.Open == 0 {
			m.remove(w)
		}
	}
	switch s.Order.Kind {
	case api.Now, api.Whole, api.Market:
		s.Cancelled += left
		r.Cancelled = left
	default:
		s.Open = left
		r.Rests = left
		if left > 0 {
			m.open[s.Order.Symbol] = append(m.open[s.Order.Symbol], s)
		}
	}
	return r
}

func (m *model) remove(s *api.Status) {
	m.open[s.Order.Symbol] = slices.DeleteFunc(m.open[s.Order.Symbol], func(w *api.Status) bool { return w == s })
}

func (m *model) close(s *api.Status) {
	m.remove(s)
	s.Cancelled += s.Open
	s.Open = 0
}

func (m *model) cancel(id int) api.Errno {
	s := m.orders[id]
	if s == nil {
		return api.ErrUnknown
	}
	if s.Open == 0 {
		return api.ErrClosed
	}
	m.begin("cancel", id)
	m.close(s)
	return api.OK
}

func (m *model) replace(id, price, quantity int) (api.Report, api.Errno) {
	s := m.orders[id]
	if s == nil {
		return api.Report{}, api.ErrUnknown
	}
	if s.Open == 0 {
		return api.Report{}, api.ErrClosed
	}
	if outside(price, 1, api.MaxNumber) || outside(quantity, 1, api.MaxNumber) {
		return api.Report{}, api.ErrRange
	}
	m.begin("replace", id, price, quantity)
	was := s.Open
	s.Entered += quantity - was
	if price == s.Order.Price && quantity <= was {
		s.Open = quantity
		return api.Report{Rests: quantity}, api.OK
	}
	m.remove(s)
	s.Open = 0
	s.Order.Price = price
	return m.come(s, quantity), api.OK
}

func (m *model) print(comes, waits *api.Status, quantity int) {
	x := api.Trade{Number: len(m.trades) + 1, Symbol: comes.Order.Symbol, Price: waits.Order.Price, Quantity: quantity, Day: m.day}
	for _, s := range []*api.Status{comes, waits} {
		if s.Order.Side == api.Buy {
			x.Buy = s.Order.ID
		} else {
			x.Sell = s.Order.ID
		}
	}
	m.trades = append(m.trades, x)
	m.tell(api.Print, x)
}

// tell adds a record of the act that is being done.
func (m *model) tell(kind int, x api.Trade) {
	m.add(kind, x)
	last := &m.past[len(m.past)-1]
	last.told = append(last.told, m.tape[len(m.tape)-1])
}

func (m *model) add(kind int, x api.Trade) {
	m.tape = append(m.tape, api.Record{Number: len(m.tape) + 1, Kind: kind, Trade: x})
}

func (m *model) mayPutRight(number int) api.Errno {
	if outside(number, 1, len(m.trades)) {
		return api.ErrUnknown
	}
	if slices.Contains(m.busted, number) {
		return api.ErrClosed
	}
	if m.trades[number-1].Day < m.day {
		return api.ErrDay
	}
	return api.OK
}

func (m *model) bust(number int, again bool) api.Errno {
	if e := m.mayPutRight(number); e != api.OK {
		return e
	}
	m.begin("bust", number, map[bool]int{false: 0, true: 1}[again])
	x := m.trades[number-1]
	m.busted = append(m.busted, number)
	for _, id := range []int{x.Buy, x.Sell} {
		s := m.orders[id]
		s.Filled -= x.Quantity
		rests := slices.Contains([]int{api.Limit, api.Day, api.Post}, s.Order.Kind)
		if again && rests && len(m.goods(s.Order)) == 0 {
			s.Open += x.Quantity
			m.remove(s)
			m.open[x.Symbol] = append(m.open[x.Symbol], s)
		} else {
			s.Cancelled += x.Quantity
		}
	}
	m.tell(api.Bust, x)
	return api.OK
}

func (m *model) correct(number, price int) api.Errno {
	if e := m.mayPutRight(number); e != api.OK {
		return e
	}
	if outside(price, 1, api.MaxNumber) {
		return api.ErrRange
	}
	m.begin("correct", number, price)
	m.trades[number-1].Price = price
	m.tell(api.Correct, m.trades[number-1])
	return api.OK
}

func (m *model) endDay() {
	m.begin("close")
	for _, s := range m.orders {
		if s.Order.Kind == api.Day {
			m.remove(s)
			s.Expired += s.Open
			s.Open = 0
		}
	}
	m.tell(api.Close, api.Trade{Day: m.day})
	m.day++
}

// held gives the trades that hold.
func (m *model) held() []api.Trade {
	return slices.DeleteFunc(slices.Clone(m.trades), func(x api.Trade) bool { return slices.Contains(m.busted, x.Number) })
}

func (m *model) book(symbol string, side int) []api.Level {
	sums := map[int]api.Level{}
	for _, w := range m.open[symbol] {
		if w.Order.Side == side {
			l := sums[w.Order.Price]
			sums[w.Order.Price] = api.Level{Price: w.Order.Price, Quantity: l.Quantity + w.Open, Orders: l.Orders + 1}
		}
	}
	var all []api.Level
	for _, l := range sums {
		all = append(all, l)
	}
	slices.SortFunc(all, func(a, b api.Level) int {
		if side == api.Buy {
			return b.Price - a.Price
		}
		return a.Price - b.Price
	})
	return all
}

// anyNumber gives mostly a number from low to high, and now and then one that is wrong or far off.
func anyNumber(r *rand.Rand, low, high int) int {
	if r.IntN(40) == 0 {
		return []int{low - 1, api.MaxNumber + 1, -1, 0, 1 << 62, -1 << 63, api.MaxNumber}[r.IntN(7)]
	}
	return low + r.IntN(high-low+1)
}

func anyOrder(r *rand.Rand) api.Order {
	o := api.Order{
		ID: anyNumber(r, 1, 400), Owner: anyNumber(r, 0, 4), Symbol: "A",
		Side: r.IntN(2), Kind: r.IntN(6), Price: anyNumber(r, 95, 105), Quantity: anyNumber(r, 1, 20),
	}
	switch r.IntN(12) {
	case 0:
		o.Symbol = "C"
	case 1, 2:
		o.Symbol = "Α"
	case 3:
		o.Kind = r.IntN(9) - 1
		o.Side = r.IntN(4) - 1
	}
	if o.Kind == api.Market && r.IntN(10) > 0 {
		o.Price = 0
	}
	return o
}

// anyID gives mostly the id of an open order, and now and then of any other, or one that is wrong.
func anyID(r *rand.Rand, m *model) int {
	if open := m.open["A"]; len(open) > 0 && r.IntN(4) > 0 {
		return open[r.IntN(len(open))].Order.ID
	}
	return anyNumber(r, 1, 400)
}

// anyTrade gives mostly the number of one of the last trades, and now and then one that is wrong or far off.
func anyTrade(r *rand.Rand, m *model) int {
	return anyNumber(r, max(0, len(m.trades)-12), len(m.trades)+1)
}

// step does one act of any kind with both, and tells what both answered.
func step(r *rand.Rand, v *venue.Venue, m *model) (what, got, want string) {
	id, price, quantity := anyID(r, m), anyNumber(r, 95, 105), anyNumber(r, 1, 20)
	switch r.IntN(17) {
	case 0:
		name := []string{"A", "Α", "B", "", "a", "D1"}[r.IntN(6)]
		return "List " + name, fmt.Sprint(v.List(name)), fmt.Sprint(m.list(name, name != "" && name != "a"))
	case 1:
		return fmt.Sprint("Cancel ", id), fmt.Sprint(v.Cancel(id)), fmt.Sprint(m.cancel(id))
	case 2, 3:
		if s := m.orders[id]; s != nil && r.IntN(2) == 0 {
			price = s.Order.Price
		}
		report, e := v.Replace(id, price, quantity)
		wantReport, wantE := m.replace(id, price, quantity)
		return fmt.Sprint("Replace ", id, price, quantity), fmt.Sprint(report, e), fmt.Sprint(wantReport, wantE)
	case 4, 5, 6:
		number, again := anyTrade(r, m), r.IntN(4) > 0
		return fmt.Sprint("Bust ", number, again), fmt.Sprint(v.Bust(number, again)), fmt.Sprint(m.bust(number, again))
	case 7:
		number := anyTrade(r, m)
		return fmt.Sprint("Correct ", number, price), fmt.Sprint(v.Correct(number, price)), fmt.Sprint(m.correct(number, price))
	case 8:
		if r.IntN(4) == 0 {
			v.Close()
			m.endDay()
			return "Close", "", ""
		}
	case 9, 10:
		return "Undo", fmt.Sprint(v.Undo()), fmt.Sprint(m.undo())
	}
	o := anyOrder(r)
	report, e := v.Enter(o)
	wantReport, wantE := m.enter(o)
	return fmt.Sprintf("Enter %+v", o), fmt.Sprint(report, e), fmt.Sprint(wantReport, wantE)
}

// askedIDs: all ids that anyNumber gives and that may be taken, and some beside.
func askedIDs() []int {
	ids := []int{-1, 401, api.MaxNumber, api.MaxNumber + 1}
	for id := range 401 {
		ids = append(ids, id)
	}
	return ids
}

// compare holds all that can be asked of both against each other.
func compare(t *testing.T, v *venue.Venue, m *model) {
	t.Helper()
	for _, name := range []string{"A", "Α", "B", "D1", "C"} {
		wantE := api.ErrUnknown
		if slices.Contains(m.names, name) {
			wantE = api.OK
		}
		for _, side := range []int{api.Buy, api.Sell} {
			if got, e := v.Book(name, side); !slices.Equal(got, m.book(name, side)) || e != wantE {
				t.Fatalf("Book(%s, %d) = %v, %d, want %v, %d", name, side, got, e, m.book(name, side), wantE)
			}
		}
	}
	for _, id := range askedIDs() {
		got, e := v.Status(id)
		want, wantE := api.Status{}, api.ErrUnknown
		if s := m.orders[id]; s != nil {
			want, wantE = *s, api.OK
		}
		if got != want || e != wantE {
			t.Fatalf("Status(%d) = %+v, %d, want %+v, %d", id, got, e, want, wantE)
		}
	}
}

// compareTold holds the trades, the tape and the journal of both against each other.
func compareTold(t *testing.T, r *rand.Rand, v *venue.Venue, m *model) {
	t.Helper()
	if got := v.Trades(); !slices.Equal(got, m.held()) {
		t.Fatalf("Trades() = %+v, want %+v", got, m.held())
	}
	from := r.IntN(len(m.tape)+4) - 1
	want := slices.Clone(m.tape)
	want = slices.DeleteFunc(want, func(x api.Record) bool { return x.Number < from })
	if got := v.Tape(from); !slices.Equal(got, want) {
		t.Fatalf("Tape(%d) = %+v, want %+v", from, got, want)
	}
	if got := v.Journal(); got != m.journal {
		t.Fatalf("Journal() = %s, want %s", got, m.journal)
	}
}

// folded gives the trades that the tape tells of.
func folded(t *testing.T, tape []api.Record) []api.Trade {
	t.Helper()
	trades := map[int]api.Trade{}
	for _, x := range tape {
		if _, there := trades[x.Trade.Number]; there != (x.Kind == api.Bust || x.Kind == api.Correct) {
			t.Fatalf("the record %+v does not go with what was told ahead of it", x)
		}
		switch x.Kind {
		case api.Print, api.Correct:
			trades[x.Trade.Number] = x.Trade
		case api.Bust:
			delete(trades, x.Trade.Number)
		}
	}
	return slices.SortedFunc(maps.Values(trades), func(a, b api.Trade) int { return a.Number - b.Number })
}

// leanedOn holds what callers lean on of the orders, the trades and the book of a symbol.
func leanedOn(t *testing.T, v *venue.Venue, symbol string) {
	t.Helper()
	filled := [2]int{}
	for _, id := range askedIDs() {
		s, e := v.Status(id)
		if s.Entered != s.Open+s.Filled+s.Cancelled+s.Expired {
			t.Fatalf("Status(%d) = %+v: the parts are not what was entered", id, s)
		}
		if e == api.OK && s.Order.Symbol == symbol {
			filled[s.Order.Side] += s.Filled
		}
	}
	traded := 0
	for _, x := range v.Trades() {
		if x.Symbol == symbol {
			traded += x.Quantity
		}
	}
	if filled[api.Buy] != traded || filled[api.Sell] != traded {
		t.Fatalf("%s: bought %d, sold %d, in trades %d", symbol, filled[api.Buy], filled[api.Sell], traded)
	}
	if got, want := folded(t, v.Tape(0)), v.Trades(); !slices.Equal(got, want) {
		t.Fatalf("the tape folded is %+v, the trades are %+v", got, want)
	}
	buys, _ := v.Book(symbol, api.Buy)
	sells, _ := v.Book(symbol, api.Sell)
	if len(buys) > 0 && len(sells) > 0 && buys[0].Price >= sells[0].Price {
		t.Fatalf("%s: %v is good for %v", symbol, buys[0], sells[0])
	}
}

// alike holds all that both tell against each other, and what callers lean on.
func alike(t *testing.T, r *rand.Rand, v *venue.Venue, m *model) {
	t.Helper()
	compare(t, v, m)
	compareTold(t, r, v, m)
	leanedOn(t, v, "A")
	leanedOn(t, v, "Α")
}

// undone undoes some acts with both.
func undone(t *testing.T, r *rand.Rand, v *venue.Venue, m *model, acts int) {
	t.Helper()
	for range acts {
		if got, want := v.Undo(), m.undo(); got != want {
			t.Fatalf("Undo() = %d, want %d", got, want)
		}
		alike(t, r, v, m)
	}
}

// Long rows of acts, right and wrong ones, with single ones and many undone: the venue answers each as the plain
// model does, back to the beginning. Now and then the venue is left behind for one that is made of its journal, the
// last line of which may be torn ahead of its end.
func TestAnswersAsThePlainModel(t *testing.T) {
	for seed := range uint64(40) {
		r := rand.New(rand.NewPCG(seed, 1))
		v, m := venue.New(), newModel()
		for range 600 {
			what, got, want := step(r, v, m)
			if got != want {
				t.Fatalf("seed %d: %s: %s, want %s", seed, what, got, want)
			}
			alike(t, r, v, m)
			if r.IntN(100) == 0 {
				undone(t, r, v, m, r.IntN(60))
			}
			if r.IntN(40) == 0 {
				torn := []string{"", "undo", "enter 1 1 A 1", "\x00 "}[r.IntN(4)]
				v = restored(t, v.Journal()+torn)
				alike(t, r, v, m)
			}
		}
		undone(t, r, v, m, len(m.past)+2)
	}
}
