package sub

import (
	"cupel/alias"
	"cupel/api"
)

// pair is the question whether the first type is related to the second one, by their numbers.
type pair struct{ a, b int }

// What is known of a pair; of one that wasn't asked yet nothing is.
const (
	supposed = 1
	refuted  = 2
)

// How heads are held against each other.
const (
	strictly = false
	loosely  = true
)

// judge finds out which pairs are related. A pair is supposed to be related as long as nothing speaks against it, so that types that stand for themselves come to an end. What was supposed behind a pair may lean on it: where it fails, all of that is taken off the trail. That it failed stays known, as with fewer suppositions it would fail all the same.
type judge struct {
	book  *book
	loose bool
	known map[pair]int
	trail []pair    // what is supposed, in order
	open  []*asking // what is being found out, each for the one ahead of it
}

// asking is a pair that is being found out: is each head of the first type under some head of the second one?
type asking struct {
	pair   pair
	mark   int    // where it lies on the trail
	heads  []int  // of the first type: those that weren't found to be under one yet
	all    []int  // heads of the second type
	ahead  []int  // of them: those that weren't tried yet for heads[0]
	trying bool   // is one tried now?
	needs  []pair // what has to be related yet, that heads[0] be under that one
}

func newJudge(e *alias.Env, loose bool) *judge {
	return &judge{book: newBook(e), loose: loose, known: map[pair]int{}}
}

// related answers in a loop, as references may lead on farther than calls may nest.
func (j *judge) related(p pair) bool {
	if j.asks(p) {
		for len(j.open) > 0 {
			j.step(j.open[len(j.open)-1])
		}
	}
	return j.known[p] != refuted
}

// asks begins with a pair, if it has to be found out first. Equal types are related always.
func (j *judge) asks(p pair) bool {
	if p.a == p.b || j.known[p] != 0 {
		return false
	}
	all := j.book.heads(p.b)
	j.open = append(j.open, &asking{pair: p, mark: len(j.trail), heads: j.book.heads(p.a), all: all, ahead: all})
	j.known[p] = supposed
	j.trail = append(j.trail, p)
	return true
}

func (j *judge) step(q *asking) {
	switch {
	case q.trying:
		j.goOn(q)
	case len(q.heads) == 0:
		j.end()
	case len(q.ahead) == 0:
		j.takeOff(q.mark)
		j.known[q.pair] = refuted
		j.end()
	default:
		q.needs, q.trying = j.needs(q.heads[0], q.ahead[0])
		q.ahead = q.ahead[1:]
	}
}

func (j *judge) end() { j.open = j.open[:len(j.open)-1] }

func (j *judge) takeOff(mark int) {
	for _, p := range j.trail[mark:] {
		delete(j.known, p)
	}
	j.trail = j.trail[:mark]
}

// goOn goes through what the try needs, up to a pair that has to be found out first.
func (j *judge) goOn(q *asking) {
	for ; len(q.needs) > 0; q.needs = q.needs[1:] {
		if j.asks(q.needs[0]) {
			return
		}
		if j.known[q.needs[0]] == refuted {
			q.trying = false
			return
		}
	}
	q.trying = false
	q.heads, q.ahead = q.heads[1:], q.all
}

// needs are the pairs that have to be related, that one head be under the other one; false, if it can't be.
func (j *judge) needs(x, y int) ([]pair, bool) {
	one, other := j.book.pages[x], j.book.pages[y]
	switch {
	case x == y:
		return nil, true
	case j.loose && (j.book.isDyn(x) || j.book.isDyn(y)):
		return nil, true
	case one.kind != other.kind:
		return nil, false
	}
	switch one.kind {
	case api.KInt, api.KBool, api.KText, api.KDyn:
		return nil, true
	case api.KRec:
		return recordNeeds(one, other)
	case api.KFun:
		return functionNeeds(one, other)
	}
	return nil, false
}

func recordNeeds(one, other page) ([]pair, bool) {
	var needs []pair
	for _, name := range other.names {
		mine, there := one.fields[name]
		if !there {
			return nil, false
		}
		needs = append(needs, pair{mine, other.fields[name]})
	}
	return needs, true
}

// functionNeeds: what the other one takes has to be taken, and what is given has to be what the other one gives.
func functionNeeds(one, other page) ([]pair, bool) {
	if len(one.parts) != 2 || len(other.parts) != 2 {
		return nil, false
	}
	return []pair{{other.parts[0], one.parts[0]}, {one.parts[1], other.parts[1]}}, true
}
