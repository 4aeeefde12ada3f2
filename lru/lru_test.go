package lru

import (
	"math"
	"slices"
	"strconv"
	"strings"
	"testing"
)

// listOf has keys in the order of their use: the last argument is the first key.
func listOf[K comparable](used ...K) *List[K] {
	l := New[K]()
	for _, k := range used {
		l.Use(k)
	}
	return l
}

// wantKeys holds all that can be asked of a list against its keys, the first one first.
func wantKeys[K comparable](t *testing.T, l *List[K], want ...K) {
	t.Helper()
	if keys := l.Keys(); !slices.Equal(keys, want) {
		t.Errorf("Keys: %v; wanted %v", keys, want)
	}
	if n := l.Len(); n != len(want) {
		t.Errorf("Len: %d; wanted %d, of %v", n, len(want), want)
	}
	for _, k := range want {
		if !l.Has(k) {
			t.Errorf("Has(%v): false; it is one of %v", k, want)
		}
	}
	if len(want) == 0 {
		var none K
		wantLast(t, l, none, false)
		return
	}
	wantLast(t, l, want[len(want)-1], true)
}

func wantLast[K comparable](t *testing.T, l *List[K], want K, there bool) {
	t.Helper()
	if k, ok := l.Last(); k != want || ok != there {
		t.Errorf("Last: %v, %v; wanted %v, %v", k, ok, want, there)
	}
}

func wantDrop[K comparable](t *testing.T, l *List[K], k K, want bool) {
	t.Helper()
	if was := l.Drop(k); was != want {
		t.Errorf("Drop(%v): %v; wanted %v", k, was, want)
	}
	if l.Has(k) {
		t.Errorf("Has(%v) behind Drop: true", k)
	}
}

// wantLastBut keeps the kept keys, and looks at which keys are asked of, too.
func wantLastBut[K comparable](t *testing.T, l *List[K], kept []K, want K, there bool, asked ...K) {
	t.Helper()
	var got []K
	k, ok := l.LastBut(func(k K) bool {
		got = append(got, k)
		return slices.Contains(kept, k)
	})
	if k != want || ok != there {
		t.Errorf("LastBut, keeping %v: %v, %v; wanted %v, %v", kept, k, ok, want, there)
	}
	if !slices.Equal(got, asked) {
		t.Errorf("LastBut, keeping %v, asked of %v; wanted %v", kept, got, asked)
	}
}

// P3.1: New.
func TestNewHasNoKeys(t *testing.T) {
	if New[int]() == nil {
		t.Fatal("New: nil")
	}
	wantKeys(t, New[int]())
	wantKeys(t, New[string]())
	l := New[int]()
	if l.Has(0) || l.Has(1) {
		t.Error("Has: true of a new list")
	}
	wantDrop(t, l, 0, false)
	wantLastBut(t, l, nil, 0, false)
	wantKeys(t, l)
}

// P3.1: two lists have nothing in common.
func TestListsAreApart(t *testing.T) {
	a, b := listOf(1, 2), New[int]()
	b.Use(3)
	wantKeys(t, a, 2, 1)
	wantKeys(t, b, 3)
	wantDrop(t, b, 1, false)
	wantKeys(t, a, 2, 1)
}

// P3.1: the chapter's example.
func TestTheChaptersExample(t *testing.T) {
	l := listOf(1, 2, 1)
	wantLast(t, l, 2, true)
	wantKeys(t, l, 1, 2)
}

// P3.1: Use of a new key.
func TestUsePutsAKeyFirst(t *testing.T) {
	l := New[string]()
	l.Use("b")
	wantKeys(t, l, "b")
	l.Use("a")
	wantKeys(t, l, "a", "b")
	l.Use("")
	wantKeys(t, l, "", "a", "b")
	if l.Has("c") || l.Has("A") || l.Has("a ") {
		t.Error("Has: true of a key that wasn't used")
	}
}

// P3.1: Use of a key that is there, wherever it stands.
func TestUseAgain(t *testing.T) {
	one := listOf("a")
	one.Use("a")
	wantKeys(t, one, "a")

	front := listOf(1, 2, 3)
	front.Use(3)
	wantKeys(t, front, 3, 2, 1)

	middle := listOf(1, 2, 3)
	middle.Use(2)
	wantKeys(t, middle, 2, 3, 1)

	end := listOf(1, 2, 3)
	end.Use(1)
	wantKeys(t, end, 1, 3, 2)

	two := listOf(1, 2)
	two.Use(1)
	wantKeys(t, two, 1, 2)
	two.Use(1)
	wantKeys(t, two, 1, 2)
}

// P3.1: Drop, and Use of the dropped key, wherever it stood.
func TestDropAndUseAgain(t *testing.T) {
	left := [][]int{{2, 1}, {3, 1}, {3, 2}}
	for i, k := range []int{3, 2, 1} {
		l := listOf(1, 2, 3)
		wantDrop(t, l, k, true)
		wantKeys(t, l, left[i]...)
		wantDrop(t, l, k, false)
		wantKeys(t, l, left[i]...)
		l.Use(k)
		wantKeys(t, l, append([]int{k}, left[i]...)...)
		wantDrop(t, l, k, true)
		l.Use(4)
		wantKeys(t, l, append([]int{4}, left[i]...)...)
		l.Use(k)
		wantKeys(t, l, append([]int{k, 4}, left[i]...)...)
	}
}

// P3.1: Drop of the only key.
func TestDropOfTheOnlyKey(t *testing.T) {
	l := listOf("a")
	wantDrop(t, l, "a", true)
	wantKeys(t, l)
	wantLastBut(t, l, nil, "", false)
	wantDrop(t, l, "a", false)
	l.Use("a")
	wantKeys(t, l, "a")
	wantDrop(t, l, "a", true)
	l.Use("b")
	wantKeys(t, l, "b")
}

// P3.1: Drop of all, and new keys in their places.
func TestDropOfAll(t *testing.T) {
	l := listOf(1, 2, 3, 4)
	for _, k := range []int{2, 4, 1, 3} {
		wantDrop(t, l, k, true)
	}
	wantKeys(t, l)
	for k := range 6 {
		l.Use(k)
	}
	wantKeys(t, l, 5, 4, 3, 2, 1, 0)
}

// P3.1: Drop of a key that isn't there.
func TestDropOfAKeyThatIsNotThere(t *testing.T) {
	l := listOf("a", "b")
	for _, k := range []string{"", "c", "A", "ab", "a\x00"} {
		wantDrop(t, l, k, false)
		wantKeys(t, l, "b", "a")
	}
}

// P3.1: the zero key is a key like others.
func TestTheZeroKey(t *testing.T) {
	l := New[int]()
	wantDrop(t, l, 0, false)
	l.Use(0)
	wantKeys(t, l, 0)
	l.Use(1)
	wantKeys(t, l, 1, 0)
	wantLastBut(t, l, nil, 0, true, 0)
	wantDrop(t, l, 0, true)
	wantKeys(t, l, 1)
	if l.Has(0) {
		t.Error("Has(0): true behind Drop")
	}
}

// P3.1: Last changes nothing.
func TestLastIsNoUse(t *testing.T) {
	l := listOf(1, 2, 3)
	for range 3 {
		wantLast(t, l, 1, true)
	}
	if !l.Has(1) {
		t.Error("Has(1): false")
	}
	wantKeys(t, l, 3, 2, 1)
}

// P3.1: LastBut, and which keys keep is asked of.
func TestLastBut(t *testing.T) {
	l := listOf("d", "c", "b", "a")
	wantLastBut(t, l, nil, "d", true, "d")
	wantLastBut(t, l, []string{"a", "b", "c"}, "d", true, "d")
	wantLastBut(t, l, []string{"d"}, "c", true, "d", "c")
	wantLastBut(t, l, []string{"d", "b"}, "c", true, "d", "c")
	wantLastBut(t, l, []string{"b", "c", "d"}, "a", true, "d", "c", "b", "a")
	wantLastBut(t, l, []string{"a", "b", "c", "d"}, "", false, "d", "c", "b", "a")
	wantKeys(t, l, "a", "b", "c", "d")
}

// P3.1: LastBut where there is one key.
func TestLastButOfOneKey(t *testing.T) {
	l := listOf(7)
	wantLastBut(t, l, nil, 7, true, 7)
	wantLastBut(t, l, []int{7}, 0, false, 7)
	wantKeys(t, l, 7)
}

// P3.1: LastBut goes by the last uses, and not by the first ones or by places.
func TestLastButBehindUsesAndDrops(t *testing.T) {
	l := listOf(1, 2, 3, 4)
	l.Use(1)
	l.Drop(3)
	l.Use(5)
	l.Use(4)
	wantKeys(t, l, 4, 5, 1, 2)
	wantLastBut(t, l, []int{2, 1}, 5, true, 2, 1, 5)
	wantLastBut(t, l, []int{1, 2, 4, 5}, 0, false, 2, 1, 5, 4)
}

// P3.1 and R1: no function refuses no key.
func TestLastButOfNil(t *testing.T) {
	if k, ok := listOf(1, 2).LastBut(nil); k != 0 || ok {
		t.Errorf("LastBut(nil): %d, %v", k, ok)
	}
	if k, ok := New[int]().LastBut(nil); k != 0 || ok {
		t.Errorf("LastBut(nil), without keys: %d, %v", k, ok)
	}
}

// R1: LastBut ends, whatever keep does to the list.
func TestLastButWhereKeepChangesTheList(t *testing.T) {
	drops := listOf(1, 2, 3)
	if k, ok := drops.LastBut(func(k int) bool { return drops.Drop(k) }); k != 0 || ok {
		t.Errorf("a keep that drops: %d, %v", k, ok)
	}
	wantKeys(t, drops)

	dropsOthers := listOf(1, 2, 3)
	if k, ok := dropsOthers.LastBut(func(k int) bool { return dropsOthers.Drop(k + 1) }); k != 0 || ok {
		t.Errorf("a keep that drops others: %d, %v", k, ok)
	}
	wantKeys(t, dropsOthers, 3, 1)

	uses := listOf(1, 2, 3)
	if k, ok := uses.LastBut(func(k int) bool { uses.Use(k); return true }); k != 0 || ok {
		t.Errorf("a keep that uses: %d, %v", k, ok)
	}
	wantKeys(t, uses, 3, 2, 1)

	adds := listOf(1, 2, 3)
	next := 3
	if k, ok := adds.LastBut(func(k int) bool { next++; adds.Use(next); return true }); k != 0 || ok {
		t.Errorf("a keep that adds: %d, %v", k, ok)
	}
	wantKeys(t, adds, 6, 5, 4, 3, 2, 1)

	swaps := listOf(1, 2, 3)
	if k, ok := swaps.LastBut(func(k int) bool { swaps.Drop(k); swaps.Use(k + 10); return true }); k != 0 || ok {
		t.Errorf("a keep that swaps: %d, %v", k, ok)
	}
	wantKeys(t, swaps, 13, 12, 11)

	usesNext := listOf(1, 2, 3)
	var asked []int
	usesNext.LastBut(func(k int) bool { asked = append(asked, k); usesNext.Use(2); return true })
	if !slices.Equal(asked, []int{1, 2}) {
		t.Errorf("a keep that uses the next key was asked of %v", asked)
	}

	asks := listOf("a", "b")
	asks.LastBut(func(k string) bool { return asks.Has(k) && asks.Len() == 2 && len(asks.Keys()) == 2 })
	wantKeys(t, asks, "b", "a")
}

// P3.1 and R4: what Keys tells is the caller's.
func TestKeysAreTheCallers(t *testing.T) {
	l := listOf("b", "a")
	told := l.Keys()
	told[0], told[1] = "x", "y"
	_ = append(told[:1], "z")
	wantKeys(t, l, "a", "b")

	told = l.Keys()
	l.Use("b")
	l.Drop("a")
	l.Use("c")
	if !slices.Equal(told, []string{"a", "b"}) {
		t.Errorf("what Keys told became %v", told)
	}
	a, b := l.Keys(), l.Keys()
	a[0] = "x"
	if !slices.Equal(b, []string{"c", "b"}) {
		t.Errorf("what Keys told twice is shared: %v", b)
	}
}

func askNil[K comparable](t *testing.T, k K) {
	t.Helper()
	var l *List[K]
	l.Use(k)
	wantKeys(t, l)
	wantDrop(t, l, k, false)
	wantLastBut(t, l, nil, *new(K), false)
	if k, ok := l.LastBut(nil); k != *new(K) || ok {
		t.Errorf("LastBut(nil) of nil: %v, %v", k, ok)
	}
	if len(l.Keys()) != 0 || l.Has(*new(K)) {
		t.Error("nil has a key")
	}
}

// P3.1 and R1: every call of a nil list.
func TestNil(t *testing.T) {
	askNil(t, 0)
	askNil(t, 5)
	askNil(t, "")
	askNil(t, "a")
}

// A list that New didn't make is one without keys.
func TestZeroList(t *testing.T) {
	var l List[string]
	wantKeys(t, &l)
	wantDrop(t, &l, "a", false)
	wantLastBut(t, &l, nil, "", false)
	l.Use("a")
	l.Use("b")
	wantKeys(t, &l, "b", "a")
}

// P3.1: keys of more kinds, and at their ends.
func TestKindsOfKeys(t *testing.T) {
	numbers := listOf(math.MinInt, -1, 0, 1, math.MaxInt, -1)
	wantKeys(t, numbers, -1, math.MaxInt, 1, 0, math.MinInt)

	texts := listOf("", "\x00", "\xff", "\xff\xfe", strings.Repeat("x", 1<<16), "\x00")
	wantKeys(t, texts, "\x00", strings.Repeat("x", 1<<16), "\xff\xfe", "\xff", "")

	type key struct {
		kind int
		name string
	}
	rows := listOf(key{1, "a"}, key{2, "a"}, key{1, "b"}, key{1, "a"})
	wantKeys(t, rows, key{1, "a"}, key{1, "b"}, key{2, "a"})

	bytes := New[byte]()
	for range 3 {
		for b := range 256 {
			bytes.Use(byte(b))
		}
	}
	if bytes.Len() != 256 {
		t.Errorf("Len of all bytes: %d", bytes.Len())
	}
	wantLast(t, bytes, 0, true)
}

// R1: what can't be compared can't be a key; asking for it is no panic.
func TestWhatCannotBeCompared(t *testing.T) {
	l := listOf[any](1, "a")
	l.Use([]int{1})
	l.Use(struct{ f any }{[]int{1}})
	if l.Has([]int{1}) || l.Drop([]int{1}) {
		t.Error("what can't be compared is there")
	}
	wantKeys[any](t, l, "a", 1)
	l.Use(nil)
	wantKeys[any](t, l, nil, "a", 1)

	var none *List[any]
	none.Use([]int{1})
	if none.Has([]int{1}) || none.Drop([]int{1}) {
		t.Error("nil has what can't be compared")
	}
}

// P3.2: what is used one behind the other comes out of Last in that order.
func TestKeysComeOutInTheirOrder(t *testing.T) {
	const count = 1000
	l := New[string]()
	for i := range count {
		l.Use(strconv.Itoa(i))
	}
	for i := range count {
		wantLast(t, l, strconv.Itoa(i), true)
		wantDrop(t, l, strconv.Itoa(i), true)
		if n := l.Len(); n != count-1-i {
			t.Fatalf("Len behind %d: %d", i, n)
		}
	}
	wantKeys(t, l)
}

// P3.2: it is the last use that counts.
func TestUsedAgainTheyComeOutLater(t *testing.T) {
	l := listOf(1, 2, 3, 4, 5, 2, 1)
	var out []int
	for k, ok := l.Last(); ok; k, ok = l.Last() {
		out = append(out, k)
		l.Drop(k)
	}
	if !slices.Equal(out, []int{3, 4, 5, 2, 1}) {
		t.Errorf("out of Last: %v", out)
	}
}

// plain does what List does, by a slice whose last key is the one that was used last.
type plain []int

func (p *plain) drop(k int) bool {
	i := slices.Index(*p, k)
	if i < 0 {
		return false
	}
	*p = slices.Delete(*p, i, i+1)
	return true
}

func (p *plain) use(k int) {
	p.drop(k)
	*p = append(*p, k)
}

// P3.1 and P3.2: many calls, held against the plain list.
func TestAgainstAPlainList(t *testing.T) {
	l, p := New[int](), plain{}
	seed := uint32(1)
	for range 5000 {
		seed = seed*1664525 + 1013904223
		k := int(seed >> 16 % 13)
		switch seed >> 28 {
		case 0, 1, 2, 3, 4, 5:
			wantDrop(t, l, k, p.drop(k))
		default:
			l.Use(k)
			p.use(k)
		}
		keys := slices.Clone(p)
		slices.Reverse(keys)
		wantKeys(t, l, keys...)
		i := slices.IndexFunc(p, func(k int) bool { return k%2 == 0 })
		even, ok := l.LastBut(func(k int) bool { return k%2 != 0 })
		if ok != (i >= 0) || ok && even != p[i] || !ok && even != 0 {
			t.Fatalf("LastBut, keeping the odd ones of %v: %d, %v", keys, even, ok)
		}
		if t.Failed() {
			return
		}
	}
}

// What is dropped leaves its place to the next new key, so that a list of few keys stays small.
func TestPlacesAreUsedAgain(t *testing.T) {
	l := listOf(-1)
	for k := range 1000 {
		for i := range 3 {
			l.Use(3*k + i)
		}
		for i := range 3 {
			l.Drop(3*k + i)
		}
	}
	wantKeys(t, l, -1)
	if n := len(l.places); n > 5 {
		t.Errorf("%d places for at most four keys", n)
	}
	for at, p := range l.places {
		if p.ahead == gone && p.key != 0 {
			t.Errorf("place %d still holds the dropped key %d", at, p.key)
		}
	}
}

// Many keys take no longer than a walk over them.
func TestManyKeys(t *testing.T) {
	const count = 1 << 17
	l := New[int]()
	for range 2 {
		for k := range count {
			l.Use(k)
		}
	}
	for k := range count {
		if last, ok := l.Last(); last != k || !ok {
			t.Fatalf("Last: %d, %v; wanted %d", last, ok, k)
		}
		l.Drop(k)
	}
	wantKeys(t, l)
}
