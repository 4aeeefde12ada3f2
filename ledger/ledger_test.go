package ledger

import (
	"math"
	"testing"

	"cupel/api"
)

// most is the greatest budget that the chapter names, written out here so that the program's own number is held against it.
const most = 1099511627776

// belowZero are numbers that no call takes.
func belowZero() []int {
	return []int{-1, -2, -most, math.MinInt32, math.MinInt + 1, math.MinInt}
}

// aboveMost are numbers that no budget may be, nor ever fit into one.
func aboveMost() []int {
	return []int{most + 1, 2 * most, math.MaxInt - most, math.MaxInt - 1, math.MaxInt}
}

func made(t *testing.T, budget int) *Ledger {
	t.Helper()
	l, e := New(budget)
	if l == nil || e != api.OK {
		t.Fatalf("New(%d): %v, %v", budget, l, e)
	}
	wantNumbers(t, l, budget, 0, 0)
	return l
}

func wantNumbers(t *testing.T, l *Ledger, budget, charged, high int) {
	t.Helper()
	if b, c, h := l.Numbers(); b != budget || c != charged || h != high {
		t.Errorf("Numbers: %d, %d, %d; wanted %d, %d, %d", b, c, h, budget, charged, high)
	}
}

// wantCharge asks Fits ahead of Charge: the two must agree, and asking must change nothing.
func wantCharge(t *testing.T, l *Ledger, n int, want api.Errno) {
	t.Helper()
	b, c, h := l.Numbers()
	if got := l.Fits(n); got != (want == api.OK) {
		t.Errorf("Fits(%d): %v", n, got)
	}
	wantNumbers(t, l, b, c, h)
	if e := l.Charge(n); e != want {
		t.Errorf("Charge(%d): %v; wanted %v", n, e, want)
	}
	if want != api.OK {
		wantNumbers(t, l, b, c, h)
		return
	}
	wantNumbers(t, l, b, c+n, max(h, c+n))
}

func wantRefund(t *testing.T, l *Ledger, n int, want api.Errno) {
	t.Helper()
	b, c, h := l.Numbers()
	if e := l.Refund(n); e != want {
		t.Errorf("Refund(%d): %v; wanted %v", n, e, want)
	}
	if want != api.OK {
		wantNumbers(t, l, b, c, h)
		return
	}
	wantNumbers(t, l, b, c-n, h)
}

func wantSet(t *testing.T, l *Ledger, budget int, want api.Errno) {
	t.Helper()
	b, c, h := l.Numbers()
	if e := l.Set(budget); e != want {
		t.Errorf("Set(%d): %v; wanted %v", budget, e, want)
	}
	if want != api.OK {
		wantNumbers(t, l, b, c, h)
		return
	}
	wantNumbers(t, l, budget, c, h)
}

// P2.1: New.
func TestNew(t *testing.T) {
	for _, n := range []int{0, 1, 3, math.MaxInt32, most - 1, most} {
		made(t, n)
	}
	for _, n := range append(belowZero(), aboveMost()...) {
		if l, e := New(n); l != nil || e != api.ErrArg {
			t.Errorf("New(%d): %v, %v", n, l, e)
		}
	}
}

// P2.1: the chapter's example.
func TestExample(t *testing.T) {
	l := made(t, 3)
	wantCharge(t, l, 2, api.OK)
	wantCharge(t, l, 2, api.ErrFull)
	wantNumbers(t, l, 3, 2, 2)
}

// P2.1: Charge; just up to the budget, and one more.
func TestCharge(t *testing.T) {
	for _, budget := range []int{1, 2, 10, most - 1, most} {
		whole, bits := made(t, budget), made(t, budget)
		wantCharge(t, whole, budget+1, api.ErrFull)
		wantCharge(t, whole, budget, api.OK)
		wantCharge(t, bits, budget-1, api.OK)
		wantCharge(t, bits, 2, api.ErrFull)
		wantCharge(t, bits, 1, api.OK)
		for _, l := range []*Ledger{whole, bits} {
			wantNumbers(t, l, budget, budget, budget)
			wantCharge(t, l, 1, api.ErrFull)
			wantCharge(t, l, 0, api.OK)
		}
	}
}

// P2.1: nothing but 0 goes into a budget of 0.
func TestBudgetOfNothing(t *testing.T) {
	l := made(t, 0)
	wantCharge(t, l, 0, api.OK)
	wantCharge(t, l, 1, api.ErrFull)
	wantRefund(t, l, 0, api.OK)
	wantRefund(t, l, 1, api.ErrArg)
	wantSet(t, l, 0, api.OK)
	wantNumbers(t, l, 0, 0, 0)
}

// P2.1, P2.3: numbers that no call takes, at all fillings; R5: those at their ends too.
func TestWrongNumbers(t *testing.T) {
	for _, budget := range []int{0, 1, 10, most} {
		for _, charged := range []int{0, budget / 2, budget} {
			l := made(t, budget)
			wantCharge(t, l, charged, api.OK)
			for _, n := range belowZero() {
				wantCharge(t, l, n, api.ErrArg)
				wantRefund(t, l, n, api.ErrArg)
				wantSet(t, l, n, api.ErrArg)
			}
			for _, n := range aboveMost() {
				wantCharge(t, l, n, api.ErrFull)
				wantRefund(t, l, n, api.ErrArg)
				wantSet(t, l, n, api.ErrArg)
			}
		}
	}
}

// P2.1: Refund; no more than is charged.
func TestRefund(t *testing.T) {
	l := made(t, 10)
	wantRefund(t, l, 1, api.ErrArg)
	wantCharge(t, l, 7, api.OK)
	wantRefund(t, l, 8, api.ErrArg)
	wantRefund(t, l, 0, api.OK)
	wantRefund(t, l, 3, api.OK)
	wantRefund(t, l, 5, api.ErrArg)
	wantRefund(t, l, 4, api.OK)
	wantRefund(t, l, 1, api.ErrArg)
	wantCharge(t, l, 10, api.OK)
	wantRefund(t, l, 10, api.OK)
}

// P2.1: Set; down to just what is charged, and up again.
func TestSet(t *testing.T) {
	l := made(t, 10)
	wantCharge(t, l, 6, api.OK)
	wantSet(t, l, 5, api.ErrFull)
	wantSet(t, l, 0, api.ErrFull)
	wantSet(t, l, 6, api.OK)
	wantCharge(t, l, 1, api.ErrFull)
	wantCharge(t, l, 0, api.OK)
	wantSet(t, l, 7, api.OK)
	wantCharge(t, l, 2, api.ErrFull)
	wantCharge(t, l, 1, api.OK)
	wantSet(t, l, most, api.OK)
	wantSet(t, l, most+1, api.ErrArg)
	wantCharge(t, l, most-7, api.OK)
	wantSet(t, l, most-1, api.ErrFull)
	wantRefund(t, l, most, api.OK)
	wantSet(t, l, 0, api.OK)
}

// P2.1: a number that is no budget is told ahead of what is charged.
func TestSetOrder(t *testing.T) {
	l := made(t, 10)
	wantCharge(t, l, 10, api.OK)
	wantSet(t, l, -1, api.ErrArg)
	wantSet(t, l, 9, api.ErrFull)
}

// P2.2: HIGH is the most that ever was, behind refunds and other budgets too.
func TestHigh(t *testing.T) {
	l := made(t, 10)
	wantCharge(t, l, 4, api.OK)
	wantCharge(t, l, 3, api.OK)
	wantRefund(t, l, 5, api.OK)
	wantNumbers(t, l, 10, 2, 7)
	wantCharge(t, l, 4, api.OK)
	wantNumbers(t, l, 10, 6, 7)
	wantCharge(t, l, 1, api.OK)
	wantNumbers(t, l, 10, 7, 7)
	wantCharge(t, l, 1, api.OK)
	wantNumbers(t, l, 10, 8, 8)
	wantRefund(t, l, 8, api.OK)
	wantSet(t, l, 1, api.OK)
	wantNumbers(t, l, 1, 0, 8)
	wantCharge(t, l, 2, api.ErrFull)
	wantNumbers(t, l, 1, 0, 8)
}

// P2.2: Fits at each n about what is left.
func TestFits(t *testing.T) {
	l := made(t, 6)
	wantCharge(t, l, 4, api.OK)
	for n := -3; n < 12; n++ {
		if got := l.Fits(n); got != (0 <= n && n <= 2) {
			t.Errorf("Fits(%d): %v", n, got)
		}
	}
	wantNumbers(t, l, 6, 4, 4)
}

// P2.1, P2.2: of nil, whatever the number: ErrNil comes ahead of ErrArg.
func TestNil(t *testing.T) {
	var l *Ledger
	for _, n := range append(append(belowZero(), 0, 1, most), aboveMost()...) {
		for _, e := range []api.Errno{l.Charge(n), l.Refund(n), l.Set(n)} {
			if e != api.ErrNil {
				t.Errorf("of nil, at %d: %v", n, e)
			}
		}
		if l.Fits(n) {
			t.Errorf("Fits(%d) of nil", n)
		}
	}
	wantNumbers(t, l, 0, 0, 0)
}

// R1: a Ledger that New didn't make is one with a budget of 0.
func TestZeroLedger(t *testing.T) {
	l := &Ledger{}
	wantNumbers(t, l, 0, 0, 0)
	wantCharge(t, l, 1, api.ErrFull)
	wantSet(t, l, 2, api.OK)
	wantCharge(t, l, 2, api.OK)
}

// R6: ledgers have nothing of one another.
func TestLedgersAreApart(t *testing.T) {
	a, b := made(t, 5), made(t, 5)
	wantCharge(t, a, 5, api.OK)
	wantNumbers(t, b, 5, 0, 0)
	wantSet(t, b, 1, api.OK)
	wantNumbers(t, a, 5, 5, 5)
}

// P2.3: every call at every small number, out of every small filling: wantX hold each against what it left.
func TestErrorsChangeNothing(t *testing.T) {
	for budget := range 5 {
		for charged := range budget + 1 {
			for n := -2; n < 8; n++ {
				l := made(t, budget)
				wantCharge(t, l, budget, api.OK)
				wantRefund(t, l, budget-charged, api.OK)
				wantCharge(t, l, n, pick(n < 0, n > budget-charged))
				_, now, _ := l.Numbers()
				wantRefund(t, l, n, pick(n < 0 || n > now, false))
				_, now, _ = l.Numbers()
				wantSet(t, l, n, pick(n < 0, n < now))
			}
		}
	}
}

func pick(arg, full bool) api.Errno {
	if arg {
		return api.ErrArg
	}
	if full {
		return api.ErrFull
	}
	return api.OK
}
