// Package words is layer 1: see shared/doc/01-words.md.
package words

import (
	"iter"
	"strings"

	"cupel/api"
)

// Table has texts.
type Table struct {
	numbers map[string]int
	texts   []string // the text of number n stands at n-1, as numbers begin at 1
}

// New: without texts.
func New() *Table { return &Table{} }

// Of: a text's number.
func (t *Table) Of(s string) int {
	if t == nil {
		return 0
	}
	if n, ok := t.numbers[s]; ok {
		return n
	}
	return t.add(s)
}

// add gives the next number to a text that has none.
func (t *Table) add(s string) int {
	// The map is made here and not in New, so that a Table that New didn't make is one without texts too.
	if t.numbers == nil {
		t.numbers = map[string]int{}
	}
	// A copy, as a short piece would otherwise hold the long text that it was cut from.
	own := strings.Clone(s)
	t.texts = append(t.texts, own)
	t.numbers[own] = len(t.texts)
	return len(t.texts)
}

// Text: of a number.
func (t *Table) Text(n int) (string, api.Errno) {
	if t == nil {
		return "", api.ErrNil
	}
	if n < 1 || n > len(t.texts) {
		return "", api.ErrNone
	}
	return t.texts[n-1], api.OK
}

// Known: a text's number, if it has one.
func (t *Table) Known(s string) (int, bool) {
	if t == nil {
		return 0, false
	}
	n, ok := t.numbers[s]
	return n, ok
}

// Len: how many texts.
func (t *Table) Len() int {
	if t == nil {
		return 0
	}
	return len(t.texts)
}

// Bytes: of all texts.
func (t *Table) Bytes() int {
	sum := 0
	for s := range t.each() {
		sum += len(s)
	}
	return sum
}

// each tells the texts one by one, in the order of their numbers; of nil, none.
func (t *Table) each() iter.Seq[string] {
	return func(yield func(string) bool) {
		if t == nil {
			return
		}
		for _, s := range t.texts {
			if !yield(s) {
				return
			}
		}
	}
}
