package words

import (
	"math"
	"strconv"
	"strings"
	"testing"

	"cupel/api"
)

// oddTexts are different texts, each of them at an edge: none, bytes that are no runes, and near misses of one another.
func oddTexts() []string {
	return []string{
		"", "a", "b", "A", "aa", "a ", " a", "a\n", "\x00", "\x00\x00", "a\x00", "0", "1",
		"\xff", "\xff\xfe", "\xc3", "\xc3\xa9", "e\xcc\x81", "\xef\xbf\xbd",
		strings.Repeat("x", 1<<16), strings.Repeat("x", 1<<16) + "y", strings.Repeat("x", 1<<16-1),
	}
}

func wantText(t *testing.T, w *Table, n int, want string, err api.Errno) {
	t.Helper()
	if s, e := w.Text(n); s != want || e != err {
		t.Errorf("Text(%d): %q, %v; wanted %q, %v", n, s, e, want, err)
	}
}

func wantKnown(t *testing.T, w *Table, s string, want int, there bool) {
	t.Helper()
	if n, ok := w.Known(s); n != want || ok != there {
		t.Errorf("Known(%q): %d, %v; wanted %d, %v", s, n, ok, want, there)
	}
}

func wantSizes(t *testing.T, w *Table, texts, bytes int) {
	t.Helper()
	if w.Len() != texts || w.Bytes() != bytes {
		t.Errorf("Len, Bytes: %d, %d; wanted %d, %d", w.Len(), w.Bytes(), texts, bytes)
	}
}

// P1.1: New.
func TestNewHasNoTexts(t *testing.T) {
	w := New()
	if w == nil {
		t.Fatal("New: nil")
	}
	wantSizes(t, w, 0, 0)
	wantKnown(t, w, "", 0, false)
	wantKnown(t, w, "a", 0, false)
	wantText(t, w, 0, "", api.ErrNone)
	wantText(t, w, 1, "", api.ErrNone)
}

// P1.1: Of; and the chapter's example.
func TestOfGivesNumbersFromOneOn(t *testing.T) {
	w := New()
	for i, s := range []string{"a", "b", "a"} {
		if n, want := w.Of(s), []int{1, 2, 1}[i]; n != want {
			t.Errorf("Of(%q), asked as number %d: %d; wanted %d", s, i, n, want)
		}
	}
	wantSizes(t, w, 2, 2)
	if n := w.Of("c"); n != 3 {
		t.Errorf("Of(c): %d; wanted 3, as a text asked again takes no number", n)
	}
}

// P1.1: the empty text is a text like others.
func TestTheEmptyText(t *testing.T) {
	w := New()
	wantKnown(t, w, "", 0, false)
	if n := w.Of(""); n != 1 {
		t.Errorf("Of of the empty text: %d", n)
	}
	wantSizes(t, w, 1, 0)
	wantKnown(t, w, "", 1, true)
	wantText(t, w, 1, "", api.OK)
	if a, b := w.Of("x"), w.Of(""); a != 2 || b != 1 {
		t.Errorf("Of behind the empty text: %d, %d", a, b)
	}
	wantSizes(t, w, 2, 1)
}

// P1.1: Text; numbers that none has, at their ends too.
func TestTextOfNumbers(t *testing.T) {
	w := New()
	w.Of("one")
	w.Of("two")
	wantText(t, w, 1, "one", api.OK)
	wantText(t, w, 2, "two", api.OK)
	for _, n := range []int{0, -1, 3, -2, math.MaxInt32, math.MinInt32, math.MaxInt - 1, math.MaxInt, math.MinInt + 1, math.MinInt} {
		wantText(t, w, n, "", api.ErrNone)
	}
	w.Of("three")
	wantText(t, w, 3, "three", api.OK)
	wantText(t, w, 4, "", api.ErrNone)
}

// P1.1: Known tells, and gives no number.
func TestKnownGivesNone(t *testing.T) {
	w := New()
	w.Of("a")
	for range 3 {
		wantKnown(t, w, "b", 0, false)
		wantKnown(t, w, "", 0, false)
	}
	wantSizes(t, w, 1, 1)
	wantText(t, w, 2, "", api.ErrNone)
	if n := w.Of("c"); n != 2 {
		t.Errorf("Of(c): %d; wanted 2, as Known gives no number", n)
	}
	wantKnown(t, w, "a", 1, true)
	wantKnown(t, w, "c", 2, true)
	wantKnown(t, w, "b", 0, false)
	wantSizes(t, w, 2, 2)
}

// P1.1: Len and Bytes: bytes, not runes, of each text once.
func TestLenAndBytes(t *testing.T) {
	w := New()
	texts, bytes := 0, 0
	for _, s := range oddTexts() {
		w.Of(s)
		texts, bytes = texts+1, bytes+len(s)
		wantSizes(t, w, texts, bytes)
		w.Of(s)
		wantSizes(t, w, texts, bytes)
	}
	w.Text(1)
	w.Text(0)
	w.Known("a")
	w.Known("none has it")
	wantSizes(t, w, texts, bytes)
}

// P1.1: of nil; R1: nothing panics.
func TestNil(t *testing.T) {
	var w *Table
	for _, s := range []string{"", "a", "\xff"} {
		if n := w.Of(s); n != 0 {
			t.Errorf("Of(%q) of nil: %d", s, n)
		}
		wantKnown(t, w, s, 0, false)
	}
	for _, n := range []int{math.MinInt, -1, 0, 1, math.MaxInt} {
		wantText(t, w, n, "", api.ErrNil)
	}
	wantSizes(t, w, 0, 0)
}

// R1: a Table that New didn't make is one without texts.
func TestZeroTable(t *testing.T) {
	w := &Table{}
	wantSizes(t, w, 0, 0)
	wantKnown(t, w, "a", 0, false)
	wantText(t, w, 1, "", api.ErrNone)
	if a, b, c := w.Of("a"), w.Of("b"), w.Of("a"); a != 1 || b != 2 || c != 1 {
		t.Errorf("Of: %d, %d, %d", a, b, c)
	}
}

// P1.2: one number just if they are the same.
func TestOneNumberOfOneText(t *testing.T) {
	w, l := New(), oddTexts()
	for i, s := range l {
		if n := w.Of(s); n != i+1 {
			t.Errorf("text %d: number %d", i, n)
		}
	}
	for i, a := range l {
		for j, b := range l {
			if (w.Of(a) == w.Of(b)) != (i == j) {
				t.Errorf("texts %d and %d: numbers %d and %d", i, j, w.Of(a), w.Of(b))
			}
		}
		// The same bytes in another place of memory are the same text.
		if n := w.Of(string([]byte(a))); n != i+1 {
			t.Errorf("text %d, put together anew: number %d", i, n)
		}
		wantKnown(t, w, a, i+1, true)
		wantText(t, w, i+1, a, api.OK)
	}
	if w.Len() != len(l) {
		t.Errorf("Len: %d; wanted %d", w.Len(), len(l))
	}
}

// P1.2: numbers stay, however many texts there are.
func TestManyTexts(t *testing.T) {
	const many = 20000
	w, bytes := New(), 0
	for i := range many {
		s := strconv.Itoa(i)
		bytes += len(s)
		if n := w.Of(s); n != i+1 {
			t.Fatalf("Of(%q): %d; wanted %d", s, n, i+1)
		}
	}
	for i := many - 1; i >= 0; i-- {
		s := strconv.Itoa(i)
		if n := w.Of(s); n != i+1 {
			t.Fatalf("Of(%q), again: %d; wanted %d", s, n, i+1)
		}
		wantText(t, w, i+1, s, api.OK)
	}
	wantSizes(t, w, many, bytes)
}

// R4: a text is kept as it was told, whatever the caller does with the bytes that it came from.
func TestTextIsKept(t *testing.T) {
	w, b := New(), []byte("abc")
	w.Of(string(b))
	b[0] = 'x'
	wantText(t, w, 1, "abc", api.OK)
	wantKnown(t, w, "abc", 1, true)
	wantKnown(t, w, "xbc", 0, false)
}

// R6: tables have nothing of one another.
func TestTablesAreApart(t *testing.T) {
	a, b := New(), New()
	a.Of("x")
	a.Of("y")
	wantSizes(t, b, 0, 0)
	wantKnown(t, b, "x", 0, false)
	if n := b.Of("y"); n != 1 {
		t.Errorf("Of(y) of another table: %d", n)
	}
	wantText(t, a, 1, "x", api.OK)
	wantText(t, b, 1, "y", api.OK)
}

// The iterator inside tells texts in the order of their numbers, and ends where it is left.
func TestEach(t *testing.T) {
	w := New()
	for _, s := range []string{"c", "a", "b"} {
		w.Of(s)
	}
	var all []string
	for s := range w.each() {
		all = append(all, s)
	}
	if strings.Join(all, " ") != "c a b" {
		t.Errorf("each: %q", all)
	}
	for s := range w.each() {
		if s == "a" {
			break
		}
		if s == "b" {
			t.Error("each goes on behind its end")
		}
	}
}
