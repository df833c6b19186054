package venue_test

import (
	"strings"
	"testing"

	"venue/api"
	"venue/venue"
)

func TestListTakesNames(t *testing.T) {
	for _, name := range []string{
		"A", "Z", "0", "9", "Α", "\u03a1", "\u03a3", "Ω", // the ends of what a letter may be
		"ABCDEF", "012345", "ΑΒΓΔΕΖ", "ΑΒ1", "AΑ0ΩZ9",
	} {
		v := venue.New()
		wantErrno(t, "List "+name, v.List(name), api.OK)
		if levels, e := v.Book(name, api.Buy); len(levels) != 0 || e != api.OK {
			t.Errorf("Book(%s) = %v, %d, want no orders", name, levels, e)
		}
	}
}

func TestListRefusesWhatIsNoName(t *testing.T) {
	v := venue.New()
	for _, text := range []string{
		"", "ABCDEFG", "ΑΒΓΔΕΖΗ", "AAAAAΑΑ", strings.Repeat("Ω", 1000000),
		"/", ":", "@", "[", "a", "z", "-", " ", "A ", " A", "A B", "A\n", "\x00", "A\x00",
		"\u0390", "\u03a2", "\u03aa", "α", "ω", "Ä", "А", "٣", "A\u0301", "😀", "\ufffd",
		"\xce", "A\xce", "\x91", "\xce\x91\x91", "\xff", "\xc1\x81", "\xe0\x8e\x91", // broken UTF-8, and A and Α in too many bytes
	} {
		wantErrno(t, "List "+text[:min(len(text), 20)], v.List(text), api.ErrName)
		if _, e := v.Book(text, api.Buy); e != api.ErrUnknown {
			t.Errorf("Book(%.20q): error %d behind a List that was refused", text, e)
		}
	}
}

func TestListOrderOfErrors(t *testing.T) {
	v := venue.New()
	names := []string{"A", "Α", "B", "AA", "0", "ABCDEF"}
	for _, name := range names {
		wantErrno(t, "List "+name, v.List(name), api.OK)
		wantErrno(t, "List again "+name, v.List(name), api.ErrTaken)
	}
	wantErrno(t, "List, one too many", v.List("C"), api.ErrLimit)
	wantErrno(t, "List, taken and one too many", v.List("A"), api.ErrTaken)
	wantErrno(t, "List, no name and one too many", v.List("c"), api.ErrName)
	if _, e := v.Book("C", api.Sell); e != api.ErrUnknown {
		t.Errorf("Book(C): error %d behind a List that was refused", e)
	}
}

func TestListLeavesOtherSymbolsAlone(t *testing.T) {
	v := opened(t, "A")
	rest(t, v, order(1, 1, api.Buy, api.Limit, 5, 7))
	wantErrno(t, "List", v.List("B"), api.OK)
	wantErrno(t, "List", v.List("A"), api.ErrTaken)
	side(t, v, api.Buy, api.Level{Price: 5, Quantity: 7, Orders: 1})
}
