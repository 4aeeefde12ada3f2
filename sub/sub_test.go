package sub

import (
	"fmt"
	"math"
	"math/rand"
	"slices"
	"strings"
	"testing"

	"cupel/alias"
	"cupel/api"
	"cupel/parse"
	"cupel/print"
	"cupel/types"
)

var (
	tInt  = api.T{Kind: api.KInt}
	tBool = api.T{Kind: api.KBool}
	tText = api.T{Kind: api.KText}
	tDyn  = api.T{Kind: api.KDyn}
)

func ref(name string) api.T    { return api.T{Kind: api.KRef, Name: name} }
func fun(from, to api.T) api.T { return api.T{Kind: api.KFun, L: []api.T{from, to}} }
func uni(parts ...api.T) api.T { return api.T{Kind: api.KUnion, L: parts} }

func rec(names string, l ...api.T) api.T {
	return api.T{Kind: api.KRec, Names: strings.Fields(names), L: l}
}

// typ is a type's text parsed; never alone is the union of none, which has no text that could be parsed.
func typ(t *testing.T, src string) api.T {
	t.Helper()
	if src == "never" {
		return uni()
	}
	one, ok := parse.Type(src)
	if !ok {
		t.Fatalf("%q is no type", src)
	}
	return one
}

func typs(t *testing.T, srcs string) []api.T {
	t.Helper()
	var l []api.T
	for _, src := range strings.Split(srcs, ";") {
		l = append(l, typ(t, strings.TrimSpace(src)))
	}
	return l
}

// env has the definitions of a source; nothing else may be wrong in it.
func env(t *testing.T, src string) *alias.Env {
	t.Helper()
	l, told := parse.Parse(src)
	if len(told) > 0 {
		t.Fatalf("%q: %+v", src, told)
	}
	var defs []alias.Def
	for _, d := range l {
		defs = append(defs, alias.Def{Name: d.Name, T: d.Ts[0]})
	}
	return alias.New(defs)
}

// A list without items may be nil or empty.
func same(a, b api.T) bool {
	return a.Kind == b.Kind && a.Name == b.Name && slices.Equal(a.Names, b.Names) && slices.EqualFunc(a.L, b.L, same)
}

func texts(l []api.T) string {
	var all []string
	for _, t := range l {
		all = append(all, print.Type(t))
	}
	return strings.Join(all, "; ")
}

// model holds the greatest sound relation among all pairs that a question comes to: all of them at first, and what makes it unsound is taken off till nothing does.
type model struct {
	e     *alias.Env
	loose bool
	pairs map[[2]string][2]api.T
	order [][2]string
}

func keyOf(a, b api.T) [2]string { return [2]string{types.Text(a), types.Text(b)} }

func (m *model) add(a, b api.T) {
	key := keyOf(a, b)
	if _, there := m.pairs[key]; !there {
		m.pairs[key] = [2]api.T{a, b}
		m.order = append(m.order, key)
	}
}

// under tells what has to be related, that x be under y.
func (m *model) under(x, y api.T) ([][2]api.T, bool) {
	if m.loose && (x.Kind == api.KDyn || y.Kind == api.KDyn) {
		return nil, true
	}
	if x.Kind != y.Kind {
		return nil, false
	}
	switch x.Kind {
	case api.KRec:
		var all [][2]api.T
		for i, name := range y.Names {
			at := slices.Index(x.Names, name)
			if at < 0 {
				return nil, false
			}
			all = append(all, [2]api.T{x.L[at], y.L[i]})
		}
		return all, true
	case api.KFun:
		return [][2]api.T{{y.L[0], x.L[0]}, {x.L[1], y.L[1]}}, true
	}
	return nil, true
}

func (m *model) sound(a, b api.T) bool {
	for _, x := range m.e.Heads(a) {
		if !slices.ContainsFunc(m.e.Heads(b), func(y api.T) bool {
			all, can := m.under(x, y)
			for _, one := range all {
				if _, there := m.pairs[keyOf(one[0], one[1])]; !there {
					return false
				}
			}
			return can
		}) {
			return false
		}
	}
	return true
}

// related is the model's answer.
func related(e *alias.Env, a, b api.T, loose bool) bool {
	m := model{e: e, loose: loose, pairs: map[[2]string][2]api.T{}}
	m.add(a, b)
	for i := 0; i < len(m.order); i++ {
		p := m.pairs[m.order[i]]
		for _, x := range e.Heads(p[0]) {
			for _, y := range e.Heads(p[1]) {
				all, _ := m.under(x, y)
				for _, one := range all {
					m.add(one[0], one[1])
				}
			}
		}
	}
	for turned := true; turned; {
		turned = false
		for _, key := range m.order {
			if p, there := m.pairs[key]; there && !m.sound(p[0], p[1]) {
				delete(m.pairs, key)
				turned = true
			}
		}
	}
	_, there := m.pairs[keyOf(a, b)]
	return there
}

// least goes through a list in the chapter's words.
func least(e *alias.Env, l []api.T) []api.T {
	left := slices.Repeat([]int{1}, len(l))
	var all []api.T
	for i := range l {
		for j := range l {
			if j != i && left[j] == 1 && related(e, l[i], l[j], false) {
				left[i] = 0
				break
			}
		}
	}
	for i, t := range l {
		if left[i] == 1 {
			all = append(all, types.Norm(t))
		}
	}
	return all
}

// want asks for two types and for all that hangs on them: in a record, taken and given by a function, in a union.
func want(t *testing.T, e *alias.Env, a, b api.T, sub, fits bool) {
	t.Helper()
	z := rec("z", ref("z"))
	for i, c := range []struct {
		a, b api.T
	}{
		{a, b},
		{types.Norm(a), types.Norm(b)},
		{rec("a", a), rec("a", b)},
		{rec("a b", tInt, a), rec("b", b)},
		{fun(tInt, a), fun(tInt, b)},
		{fun(b, tInt), fun(a, tInt)},
		{fun(fun(a, tInt), tInt), fun(fun(b, tInt), tInt)},
		{rec("c", uni(z, rec("a", a))), rec("c", uni(rec("a", b), z))},
	} {
		if got := Sub(e, c.a, c.b); got != sub {
			t.Errorf("P9.1: %d: Sub of %s and %s: %v", i, print.Type(c.a), print.Type(c.b), got)
		}
		if got := Fits(e, c.a, c.b); got != fits {
			t.Errorf("P9.1: %d: Fits of %s and %s: %v", i, print.Type(c.a), print.Type(c.b), got)
		}
		back := Sub(e, c.b, c.a)
		if got := Equal(e, c.a, c.b); got != (sub && back) {
			t.Errorf("P9.1: %d: Equal of %s and %s: %v", i, print.Type(c.a), print.Type(c.b), got)
		}
		if got := Equal(e, c.b, c.a); got != (sub && back) {
			t.Errorf("P9.1: %d: Equal of %s and %s: %v", i, print.Type(c.b), print.Type(c.a), got)
		}
	}
}

// row is two types as text, and what is told of them: s for a subtype, f for what fits, - for neither.
type row struct{ a, b, told string }

func wantRows(t *testing.T, e *alias.Env, rows []row) {
	t.Helper()
	for _, r := range rows {
		want(t, e, typ(t, r.a), typ(t, r.b), r.told == "s", r.told != "-")
	}
}

// The chapter's examples.
func TestExamples(t *testing.T) {
	wantRows(t, nil, []row{
		{"{a: int, b: ?}", "{a: int | bool}", "s"},
		{"?", "int", "f"},
	})
}

// P9.1: each kind of head against each.
func TestKinds(t *testing.T) {
	kinds := []string{"int", "bool", "text", "?", "{}", "int -> int", "never"}
	for i, told := range []string{
		"s--f---",
		"-s-f---",
		"--sf---",
		"fffsff-",
		"---fs--",
		"---f-s-",
		"sssssss",
	} {
		for j, b := range kinds {
			wantRows(t, nil, []row{{kinds[i], b, told[j : j+1]}})
		}
	}
}

func TestRecords(t *testing.T) {
	wantRows(t, nil, []row{
		{"{a: int}", "{a: int}", "s"},
		{"{a: int}", "{}", "s"},
		{"{}", "{a: int}", "-"},
		{"{}", "{a: ?}", "-"},
		{"{a: int}", "{b: int}", "-"},
		{"{a: int}", "{a: bool}", "-"},
		{"{a: int, b: bool, c: text}", "{b: bool}", "s"},
		{"{a: int, b: bool, c: text}", "{a: int, c: text}", "s"},
		{"{a: int, b: bool, c: text}", "{a: int, c: bool}", "-"},
		{"{b: bool}", "{a: int, b: bool}", "-"},
		{"{a: int, bc: int}", "{ab: int, c: int}", "-"},
		{"{a: int}", "{a: int | bool}", "s"},
		{"{a: int | bool}", "{a: int}", "-"},
		{"{a: int}", "{a: ?}", "f"},
		{"{a: ?}", "{a: int}", "f"},
		{"{a: ?}", "{a: ?}", "s"},
		{"{a: ?}", "{}", "s"},
		{"{a: ?, b: int}", "{a: int, b: bool}", "-"},
		{"{a: {b: {c: int, d: int}}}", "{a: {b: {c: int | text}}}", "s"},
		{"{a: {b: {c: int | text}}}", "{a: {b: {c: int}}}", "-"},
	})
}

func TestFunctions(t *testing.T) {
	wantRows(t, nil, []row{
		{"int -> int", "int -> int | bool", "s"},
		{"int -> int | bool", "int -> int", "-"},
		{"(int | bool) -> int", "int -> int", "s"},
		{"int -> int", "(int | bool) -> int", "-"},
		{"{} -> {a: int}", "{a: int} -> {}", "s"},
		{"{a: int} -> {}", "{} -> {}", "-"},
		{"{} -> {}", "{} -> {a: int}", "-"},
		{"(int -> int) -> int", "((int | bool) -> int) -> int", "s"},
		{"((int | bool) -> int) -> int", "(int -> int) -> int", "-"},
		{"int -> bool -> int", "int -> bool -> int | text", "s"},
		{"int -> (bool | text) -> int", "int -> bool -> int", "s"},
		{"int -> bool -> int", "int -> (bool | text) -> int", "-"},
		{"? -> int", "int -> int", "f"},
		{"int -> int", "? -> int", "f"},
		{"? -> int", "int -> ?", "f"},
		{"? -> ?", "? -> ?", "s"},
		{"? -> int", "int -> bool", "-"},
		{"?", "int -> int", "f"},
	})
}

func TestUnions(t *testing.T) {
	wantRows(t, nil, []row{
		{"int", "int | bool", "s"},
		{"int | bool", "bool | int", "s"},
		{"int | bool", "int", "-"},
		{"int | bool", "text | (bool | int)", "s"},
		{"int | bool", "int | text", "-"},
		{"int | bool", "?", "f"},
		{"?", "int | bool", "f"},
		{"int", "int | ?", "f"},
		{"int | ?", "bool", "f"},
		{"int | ?", "?", "s"},
		{"int | ?", "text | ?", "s"},
		// Each head is held against one head, not against all of them together.
		{"{a: int | bool}", "{a: int} | {a: bool}", "-"},
		{"{a: int} | {a: bool}", "{a: int | bool}", "s"},
		{"{a: int} | {b: int}", "{}", "s"},
		{"{a: int} | {b: int}", "{b: int} | {c: int}", "-"},
		{"int -> (int | bool)", "(int -> int) | (int -> bool)", "-"},
		{"(int -> int) | (int -> bool)", "int -> (int | bool)", "s"},
		// Not under the head that is tried first.
		{"{b: int, c: int}", "{a: int} | {b: bool} | {c: int}", "s"},
		{"{a: {b: int}, c: bool}", "{a: {b: bool}} | {a: {b: int}, c: text} | {a: {b: int}, c: bool}", "s"},
		{"{a: ?}", "{a: int} | {a: bool}", "f"},
		{"never", "int | bool", "s"},
		{"int | bool", "never", "-"},
		{"?", "never", "-"},
	})
}

func TestReferences(t *testing.T) {
	e := env(t, "type i = int; type ib = i | bool; type j = i; type self = self; type to = fro; type fro = to; type opt = ? | int;"+
		"type list = text | {head: int, tail: list}; type more = text | {head: int, size: int, tail: more}; type dyn = text | {head: ?, tail: dyn};"+
		"type even = text | {head: int, tail: odd}; type odd = {head: int, tail: even}; type odds = text | odd;"+
		"type sink = list -> sink; type sinks = (list | bool) -> sinks; type down = {a: down};")
	wantRows(t, e, []row{
		{"i", "int", "s"}, {"int", "i", "s"}, {"i", "j", "s"}, {"j", "ib", "s"}, {"ib", "j", "-"}, {"bool", "ib", "s"}, {"int | bool", "ib", "s"}, {"ib", "int | bool", "s"},
		{"{a: i}", "{a: int}", "s"}, {"{a: int}", "{a: j}", "s"}, {"{a: i} | {a: int}", "{a: j}", "s"},
		// What is EMPTY, or isn't defined, is ?.
		{"self", "self", "s"}, {"self", "?", "s"}, {"?", "self", "s"}, {"self", "to", "s"}, {"to", "fro", "s"}, {"nothing", "self", "s"}, {"nothing", "anything", "s"},
		{"int", "self", "f"}, {"self", "int", "f"}, {"nothing", "{a: int}", "f"}, {"int", "int | nothing", "f"}, {"int", "opt", "f"}, {"opt", "?", "s"}, {"text | opt", "self | i", "s"},
		// What stands for itself.
		{"list", "list", "s"}, {"more", "list", "s"}, {"list", "more", "-"}, {"list", "dyn", "f"}, {"dyn", "list", "f"}, {"more", "dyn", "f"}, {"dyn", "more", "-"},
		{"{head: int, tail: text}", "list", "s"}, {"{head: int, tail: {head: int, tail: {head: bool, tail: text}}}", "list", "-"}, {"{head: int, tail: more, size: bool}", "list", "s"},
		{"even", "list", "s"}, {"list", "even", "-"}, {"odd", "list", "s"}, {"odds", "list", "s"}, {"odd", "even", "-"}, {"even", "odds", "-"},
		{"sinks", "sink", "s"}, {"sink", "sinks", "-"}, {"more -> sink", "sink", "-"}, {"list -> sinks", "sink", "s"}, {"? -> sink", "sink", "f"},
		{"down", "{a: {a: {a: down}}}", "s"}, {"{a: {a: {a: down}}}", "down", "s"}, {"{a: {a: {a: {}}}}", "down", "-"}, {"down", "{a: {a: {b: down}}}", "-"}, {"{a: down, b: int}", "down", "s"},
	})
	if !Equal(e, typ(t, "down"), typ(t, "{a: {a: down}}")) || Equal(e, typ(t, "more"), typ(t, "list")) || Equal(e, typ(t, "list"), typ(t, "more")) || Equal(e, typ(t, "list"), typ(t, "dyn")) || !Equal(e, typ(t, "self | int"), typ(t, "?")) {
		t.Error("P9.1: Equal of types that stand for themselves")
	}
}

// What leans on a supposition that failed doesn't hold any more.
func TestTakenOff(t *testing.T) {
	e := env(t, "type t = {x: u, y: int}; type u = {z: t}; type t2 = {x: u2, y: bool}; type u2 = {z: t2}; type d = {x: v, y: int}; type v = {z: d, w: ?}; type d2 = {x: v2, y: int}; type v2 = {z: d2};"+
		"type f = {x: g, y: int}; type g = {z: h}; type h = {z: i}; type i = {z: f}; type f2 = {x: g2, y: bool}; type g2 = {z: h2}; type h2 = {z: i2}; type i2 = {z: f2};")
	wantRows(t, e, []row{
		{"u", "u2", "-"},
		{"{p: t, q: u}", "{p: t2} | {q: u2}", "-"},
		{"{p: t, q: u}", "{p: t2} | {q: u2} | {p: {x: {}}}", "s"},
		{"{p: u, q: t}", "{p: u2} | {q: t2}", "-"},
		{"(t2 -> int) | (u2 -> int)", "(t -> int) | (u -> int)", "-"},
		{"{p: f, q: g}", "{p: f2} | {q: g2}", "-"},
		{"{p: f, q: h}", "{p: f2} | {q: h2}", "-"},
		{"{p: f, q: i}", "{p: f2} | {q: i2}", "-"},
		{"{p: {z: g}, q: i, r: h}", "{p: {z: g2}} | {q: i2} | {r: h2}", "-"},
		{"{p: d, q: v}", "{p: d2, q: {z: t2}} | {q: v2}", "s"},
		{"{p: {a: d, b: int}, q: v}", "{p: {a: d2, b: bool}} | {q: v2}", "s"},
	})
	l := typs(t, "{p: t, q: u}; t2; u2; t; u; {z: t2}")
	if got := texts(Least(e, l)); got != "{p: t, q: u}; t2; t; u; {z: t2}" {
		t.Errorf("P9.2: Least: %s", got)
	}
}

// Without definitions all references are ?.
func TestNoDefinitions(t *testing.T) {
	for _, e := range []*alias.Env{nil, {}, alias.New(nil), alias.New([]alias.Def{})} {
		wantRows(t, e, []row{{"t", "?", "s"}, {"?", "t", "s"}, {"t", "u", "s"}, {"t", "int", "f"}, {"{a: t}", "{a: {}}", "f"}, {"int", "int", "s"}, {"int", "bool", "-"}})
		if got := texts(Least(e, typs(t, "t; ?; u; int; bool | int"))); got != "u; bool | int" {
			t.Errorf("P9.2: Least: %s", got)
		}
	}
}

func TestLeast(t *testing.T) {
	e := env(t, "type i = int; type j = i; type list = text | {tail: list}; type same = text | {tail: same}; type self = self;")
	for _, c := range []struct{ l, want string }{
		{"int", "int"},
		{"int | int", "int"},
		{"{b: bool | int | bool, a: text | (int | text)}", "{a: int | text, b: bool | int}"},
		{"int; bool", "int; bool"},
		{"bool; int", "bool; int"},
		{"int; int", "int"},
		{"{a: int}; int; {}; int; {b: int}", "{}; int"},
		{"{}; {a: int}; {a: int, b: int}", "{}"},
		{"{a: int, b: int}; {a: int}; {}", "{}"},
		{"{a: int}; {}; {a: int, b: int}", "{}"},
		{"{a: int}; {b: int}; {a: int, b: int}", "{a: int}; {b: int}"},
		{"int | bool; bool; text; int", "bool | int; text"},
		{"int; text; int | bool", "text; bool | int"},
		{"bool | int; int | bool", "bool | int"},
		// Of those that are equal the last one is left.
		{"int; i; j", "j"},
		{"j; i; int", "int"},
		{"list; same", "same"},
		{"same; list; text", "list"},
		{"{a: i}; {a: int}; {a: j | int}", "{a: int | j}"},
		{"int; ?", "int; ?"},
		{"?; int; ?", "int; ?"},
		{"?; self", "self"},
		{"self; ? | int", "?"},
		{"never; int", "int"},
		{"int; never", "int"},
		{"never; never", "never"},
		{"int -> int; int | bool -> int; int -> int | bool", "bool -> int | int; bool | int -> int"},
	} {
		l := typs(t, c.l)
		if got := texts(Least(e, l)); got != c.want {
			t.Errorf("P9.2: Least of %s: %s, want %s", c.l, got, c.want)
		}
		if got, want := texts(Least(e, l)), texts(least(e, l)); got != want {
			t.Errorf("P9.2: Least of %s: %s, want %s", c.l, got, want)
		}
	}
	if len(Least(e, nil)) != 0 || len(Least(e, []api.T{})) != 0 {
		t.Error("P9.2: Least of none")
	}
}

// maker makes types and definitions; names without a definition come up as well.
type maker struct {
	*rand.Rand
	dyn bool
}

func (m maker) name() string { return string(rune('p' + m.Intn(5))) }

func (m maker) typ(depth int) api.T {
	if depth == 0 || m.Intn(4) == 0 {
		switch k := m.Intn(9); {
		case k < 3:
			return []api.T{tInt, tBool, tText}[k]
		case k == 3 && m.dyn:
			return tDyn
		case k == 4:
			return rec("")
		}
		return ref(m.name())
	}
	switch m.Intn(4) {
	case 0:
		return fun(m.typ(depth-1), m.typ(depth-1))
	case 1:
		var all []api.T
		for range m.Intn(4) {
			all = append(all, m.typ(depth-1))
		}
		return uni(all...)
	}
	names := []string{"a", "b", "a b", "a c", "a b c"}[m.Intn(5)]
	made := rec(names)
	for range made.Names {
		made.L = append(made.L, m.typ(depth-1))
	}
	return made
}

// env defines the names up to t, so that u isn't defined; without ? all are defined and none leads to itself.
func (m maker) env() *alias.Env {
	for {
		var defs []alias.Def
		last := 't'
		if !m.dyn {
			last = 'u'
		}
		for name := 'p'; name < last; name++ {
			defs = append(defs, alias.Def{Name: string(name), T: m.typ(2)})
		}
		e := alias.New(defs)
		if !m.dyn {
			defs = slices.DeleteFunc(defs, func(d alias.Def) bool { return !e.Empty(d.Name) })
		}
		if m.dyn || len(defs) == 0 {
			return e
		}
	}
}

// wide makes a type that is wider, or may be: so that much of what is asked holds.
func (m maker) wide(t api.T, wider bool) api.T {
	if m.Intn(12) == 0 {
		return m.typ(1)
	}
	switch made := (api.T{Kind: t.Kind, Name: t.Name}); t.Kind {
	case api.KRec:
		for i, name := range t.Names {
			if !wider || m.Intn(4) > 0 {
				made.Names, made.L = append(made.Names, name), append(made.L, m.wide(t.L[i], wider))
			}
		}
		return made
	case api.KFun:
		return fun(m.wide(t.L[0], !wider), m.wide(t.L[1], wider))
	case api.KUnion:
		for _, part := range t.L {
			if wider || m.Intn(4) > 0 {
				made.L = append(made.L, m.wide(part, wider))
			}
		}
		if wider && m.Intn(3) == 0 {
			made.L = append(made.L, m.typ(1))
		}
		return made
	}
	if wider && m.Intn(6) == 0 {
		return uni(m.typ(1), t)
	}
	return t
}

// P9.1, P9.2: what is told of made types, held against the greatest sound relation.
func TestModel(t *testing.T) {
	counts := map[string]int{}
	for seed := range int64(6) {
		m := maker{rand.New(rand.NewSource(seed)), seed%3 > 0}
		for range 800 {
			e := m.env()
			a := m.typ(3)
			b := m.wide(a, true)
			if m.Intn(3) == 0 {
				b = m.typ(3)
			}
			if head := e.Heads(a); m.Intn(3) == 0 && len(head) > 0 {
				a = uni(head[m.Intn(len(head))])
			}
			sub, fits := related(e, a, b, false), related(e, a, b, true)
			if Sub(e, a, b) != sub || Fits(e, a, b) != fits || Equal(e, a, b) != (sub && related(e, b, a, false)) {
				t.Fatalf("P9.1: of %s and %s, with %s: %v, %v, %v, want %v, %v", print.Type(a), print.Type(b), told(e), Sub(e, a, b), Fits(e, a, b), Equal(e, a, b), sub, fits)
			}
			counts[fmt.Sprint(sub, fits)]++
			l := []api.T{a, m.typ(2), b, m.wide(a, false), m.typ(1)}[:m.Intn(6)]
			m.Shuffle(len(l), func(i, j int) { l[i], l[j] = l[j], l[i] })
			if got, want := Least(e, l), least(e, l); texts(got) != texts(want) {
				t.Fatalf("P9.2: Least of %s, with %s: %s, want %s", texts(l), told(e), texts(got), texts(want))
			}
		}
	}
	for _, told := range []string{"true true", "false true", "false false"} {
		if counts[told] < 300 {
			t.Errorf("too few are %s: %v", told, counts)
		}
	}
}

func told(e *alias.Env) string {
	all := ""
	for _, name := range e.Names() {
		t, _ := e.Def(name)
		all += name + " = " + print.Type(t) + "; "
	}
	return all
}

// All choices of two definitions of a few forms, and all pairs of a few types.
func TestEachOfTwoNames(t *testing.T) {
	forms := typs(t, "int; ?; p; q; {a: p}; {a: q, b: int}; p -> q; q -> int; int | {a: p}; {a: int | q} | {a: ?}; {a: p} | {a: q} | {}")
	asked := typs(t, "p; q; int; {a: q}; {a: {a: p}}; p | q; q -> p")
	for _, p := range forms {
		for _, q := range forms {
			e := alias.New([]alias.Def{{Name: "p", T: p}, {Name: "q", T: q}})
			for _, a := range asked {
				for _, b := range asked {
					if sub, fits := related(e, a, b, false), related(e, a, b, true); Sub(e, a, b) != sub || Fits(e, a, b) != fits {
						t.Fatalf("P9.1: of %s and %s, with %s: %v, %v", print.Type(a), print.Type(b), told(e), Sub(e, a, b), Fits(e, a, b))
					}
				}
			}
		}
	}
}

// P9.3: reflexive, and what is a subtype fits.
func TestReflexive(t *testing.T) {
	m := maker{rand.New(rand.NewSource(11)), true}
	for range 3000 {
		e, a, b := m.env(), m.typ(3), m.typ(2)
		for _, c := range [][2]api.T{{a, a}, {a, types.Norm(a)}, {types.Norm(a), a}, {a, uni(a, a)}} {
			if !Sub(e, c[0], c[1]) || !Fits(e, c[0], c[1]) || !Equal(e, c[0], c[1]) {
				t.Fatalf("P9.3: %s isn't a subtype of %s, with %s", print.Type(c[0]), print.Type(c[1]), told(e))
			}
		}
		for _, head := range e.Heads(b) {
			if !Fits(e, head, b) || !Sub(e, head, b) {
				t.Fatalf("P9.3: the head %s isn't a subtype of %s, with %s", print.Type(head), print.Type(b), told(e))
			}
		}
		if Sub(e, a, b) && !Fits(e, a, b) {
			t.Fatalf("P9.3: %s is a subtype of %s and doesn't fit, with %s", print.Type(a), print.Type(b), told(e))
		}
	}
}

// P9.3: transitive, if all pairs of a few types are asked.
func TestTransitive(t *testing.T) {
	rows := 0
	for seed := range int64(40) {
		m := maker{rand.New(rand.NewSource(seed)), seed%2 > 0}
		e := m.env()
		var l []api.T
		for range 6 {
			a := m.typ(2)
			b := m.wide(a, true)
			l = append(l, a, b, m.wide(b, true))
		}
		for _, a := range l {
			for _, b := range l {
				if !Sub(e, a, b) {
					continue
				}
				for _, c := range l {
					if Sub(e, b, c) {
						rows++
						if !Sub(e, a, c) {
							t.Fatalf("P9.3: %s of %s of %s, with %s", print.Type(a), print.Type(b), print.Type(c), told(e))
						}
					}
				}
			}
		}
	}
	if rows < 10000 {
		t.Errorf("only %d rows were asked", rows)
	}
}

// P9.3: without ? what fits is a subtype.
func TestBothAreOneWithoutDyn(t *testing.T) {
	fit := 0
	m := maker{rand.New(rand.NewSource(13)), false}
	for range 4000 {
		e, a := m.env(), m.typ(3)
		b := m.wide(a, true)
		sub := Sub(e, a, b)
		if Fits(e, a, b) != sub || Fits(e, b, a) != Sub(e, b, a) {
			t.Fatalf("P9.3: %s and %s, with %s: a subtype is %v", print.Type(a), print.Type(b), told(e), sub)
		}
		if sub {
			fit++
		}
	}
	if fit < 500 {
		t.Errorf("only %d fit", fit)
	}
}

// What is left covers the list, none of it is a subtype of another one of it, and it stands in the list's order.
func TestWhatLeastLeaves(t *testing.T) {
	m := maker{rand.New(rand.NewSource(14)), true}
	for range 1500 {
		e := m.env()
		var l []api.T
		for range m.Intn(8) {
			l = append(l, m.typ(2))
		}
		left := Least(e, l)
		for i, a := range left {
			for j, b := range left {
				if i != j && Sub(e, a, b) {
					t.Fatalf("P9.2: %s is left beside %s", print.Type(a), print.Type(b))
				}
			}
		}
		at := 0
		for _, a := range l {
			if !slices.ContainsFunc(left, func(b api.T) bool { return Sub(e, a, b) }) {
				t.Fatalf("P9.2: %s has nothing above it in %s", print.Type(a), texts(left))
			}
			if at < len(left) && same(types.Norm(a), left[at]) {
				at++
			}
		}
		if at < len(left) {
			t.Fatalf("P9.2: Least of %s in another order: %s", texts(l), texts(left))
		}
	}
}

// Rows of references that are longer than calls should nest, and whose ends differ.
func TestLongRows(t *testing.T) {
	const times = 30000
	row := func(name string, end api.T) []alias.Def {
		var defs []alias.Def
		for i := range times {
			defs = append(defs, alias.Def{Name: fmt.Sprint(name, i), T: rec("a b", ref(fmt.Sprint(name, i+1)), tInt)})
		}
		return append(defs, alias.Def{Name: fmt.Sprint(name, times), T: end})
	}
	e := alias.New(slices.Concat(row("t", tInt), row("u", uni(tInt, tBool)), row("d", tDyn)))
	for _, c := range []struct {
		a, b      string
		sub, fits bool
	}{{"t0", "u0", true, true}, {"u0", "t0", false, false}, {"u0", "d0", false, true}, {"d0", "t0", false, true}} {
		if Sub(e, ref(c.a), ref(c.b)) != c.sub || Fits(e, ref(c.a), ref(c.b)) != c.fits {
			t.Errorf("P9.1: of %s and %s: want %v, %v", c.a, c.b, c.sub, c.fits)
		}
	}
	if !Equal(e, ref("t0"), rec("a b", ref("t1"), tInt)) || Equal(e, ref("t0"), ref("t1")) {
		t.Error("P9.1: Equal of long rows")
	}
	if got := texts(Least(e, []api.T{ref("t0"), ref("u0"), ref("t1"), ref("d0"), ref("u1")})); got != "u0; d0; u1" {
		t.Errorf("P9.2: Least of long rows: %s", got)
	}
}

// Two circles meet in all pairs of their names.
func TestCircles(t *testing.T) {
	const one, other = 211, 212
	var defs []alias.Def
	for i := range one {
		defs = append(defs, alias.Def{Name: fmt.Sprint("t", i), T: rec("a b", ref(fmt.Sprint("t", (i+1)%one)), tInt)})
	}
	for i := range other {
		end := api.T(rec("a", ref(fmt.Sprint("u", (i+1)%other))))
		defs = append(defs, alias.Def{Name: fmt.Sprint("u", i), T: end})
		if i == other-1 {
			end = rec("a b", end.L[0], tBool)
			end.L[0] = ref("v0")
		} else {
			end = rec("a", ref(fmt.Sprint("v", i+1)))
		}
		defs = append(defs, alias.Def{Name: fmt.Sprint("v", i), T: end})
	}
	e := alias.New(defs)
	want(t, e, ref("t0"), ref("u0"), true, true)
	want(t, e, ref("u0"), ref("t0"), false, false)
	want(t, e, ref("t0"), ref("v0"), false, false)
	want(t, e, ref("v7"), ref("u7"), true, true)
}

// Each level asks the next one more than once: found out once, it is known.
func TestWaysThatMeet(t *testing.T) {
	const times = 300
	for _, end := range []struct {
		t         api.T
		sub, fits bool
	}{{tInt, true, true}, {tBool, false, false}, {tDyn, false, true}} {
		var defs []alias.Def
		for i := range times {
			next, other := ref(fmt.Sprint("t", i+1)), ref(fmt.Sprint("u", i+1))
			defs = append(defs,
				alias.Def{Name: fmt.Sprint("t", i), T: uni(rec("a b", next, next), rec("a b c", next, next, fun(other, next)))},
				alias.Def{Name: fmt.Sprint("u", i), T: uni(rec("a b", other, other), rec("b", rec("a", other)), rec("a b c", other, other, fun(next, other)), fun(next, other))})
		}
		e := alias.New(append(defs, alias.Def{Name: fmt.Sprint("t", times), T: tInt}, alias.Def{Name: fmt.Sprint("u", times), T: end.t}))
		want(t, e, ref("t0"), ref("u0"), end.sub, end.fits)
	}
}

// Types that were put together may nest deeper than a source.
func TestDeepTypes(t *testing.T) {
	const times = 4000
	deep := func(end, beside api.T) api.T {
		one := end
		for range times {
			one = rec("a", uni(one, beside))
		}
		return one
	}
	e := alias.New([]alias.Def{{Name: "t", T: rec("b", ref("t"))}})
	a, b, c := deep(tInt, ref("t")), deep(tInt, rec("b", rec("b", ref("t")))), deep(tBool, ref("t"))
	for _, x := range []struct {
		a, b api.T
		sub  bool
	}{{a, a, true}, {a, b, true}, {b, a, true}, {a, c, false}, {c, b, false}} {
		if Sub(e, x.a, x.b) != x.sub || Fits(e, x.a, x.b) != x.sub {
			t.Errorf("P9.1: deep types: want %v", x.sub)
		}
	}
	given, other := tInt, tInt
	for range times {
		given, other = fun(given, tBool), fun(other, tBool)
	}
	if !Equal(nil, given, other) || Sub(nil, given, fun(given, tBool)) {
		t.Error("P9.1: deep functions")
	}
}

func TestManyParts(t *testing.T) {
	const times = 600
	var l []api.T
	wide, twice := rec(""), rec("")
	for i := range times {
		name := fmt.Sprintf("a%04d", i)
		l = append(l, rec(name, tInt))
		wide.Names, wide.L = append(wide.Names, name), append(wide.L, tInt)
		twice.Names, twice.L = append(twice.Names, name), append(twice.L, uni(tInt, tBool))
	}
	all := uni(l...)
	want(t, nil, wide, twice, true, true)
	want(t, nil, twice, wide, false, false)
	want(t, nil, all, rec(""), true, true)
	want(t, nil, wide, l[times-1], true, true)
	want(t, nil, uni(l[1:]...), all, true, true)
	want(t, nil, all, uni(l[:times-1]...), false, false)
	if got := Least(nil, append(slices.Clone(l), l...)); texts(got) != texts(l) {
		t.Errorf("P9.2: Least of many: %d", len(got))
	}
}

// filled gives each list a capacity beyond its length, so that what is added to it without a copy is seen in the original.
func filled(t api.T) api.T {
	t.Names = append(make([]string, 0, len(t.Names)+2), t.Names...)
	l := make([]api.T, 0, len(t.L)+2)
	for _, part := range t.L {
		l = append(l, filled(part))
	}
	t.L = l
	return t
}

// spoil writes over all that a type has.
func spoil(t *api.T) {
	for i := range t.L {
		spoil(&t.L[i])
	}
	for i := range t.Names {
		t.Names[i] = "spoilt"
	}
	clear(t.L)
	_ = append(t.L, ref("spoilt"))
	_ = append(t.Names, "spoilt")
	*t = ref("spoilt")
}

// R4: what is handed in stays as it is, and what is told is the caller's.
func TestHandedInStays(t *testing.T) {
	m := maker{rand.New(rand.NewSource(15)), true}
	for range 1500 {
		e := m.env()
		before := told(e)
		var l, kept []api.T
		for range 1 + m.Intn(4) {
			one := m.typ(3)
			l, kept = append(l, filled(one)), append(kept, filled(one))
		}
		Sub(e, l[0], l[len(l)-1])
		Fits(e, l[0], l[len(l)-1])
		Equal(e, l[len(l)-1], l[0])
		want := texts(Least(e, l))
		left := Least(e, l)
		for i := range left {
			spoil(&left[i])
		}
		_ = append(left, ref("spoilt"))
		if !slices.EqualFunc(l, kept, same) || told(e) != before || texts(Least(e, l)) != want {
			t.Fatalf("R4: %s was %s; %s was %s", texts(l), texts(kept), told(e), before)
		}
	}
}

// R4: no two lists of what is told share anything, even where those that were handed in do.
func TestListsOfItsOwn(t *testing.T) {
	shared := rec("a b", uni(tInt, rec("c", tInt)), fun(tInt, tBool))
	left := Least(nil, []api.T{rec("a", shared), rec("b", shared), shared, fun(shared, shared)})
	if len(left) != 4 {
		t.Fatalf("P9.2: Least: %s", texts(left))
	}
	lists, names := map[*api.T]int{}, map[*string]int{}
	var count func(l []api.T)
	count = func(l []api.T) {
		for i := range l {
			lists[&l[i]]++
			for j := range l[i].Names {
				names[&l[i].Names[j]]++
			}
			count(l[i].L)
		}
	}
	count(left)
	for _, n := range lists {
		if n > 1 {
			t.Fatal("R4: a list of types is there twice")
		}
	}
	for _, n := range names {
		if n > 1 {
			t.Fatal("R4: a list of names is there twice")
		}
	}
}

// R6: told again it is the same.
func TestToldAgain(t *testing.T) {
	m := maker{rand.New(rand.NewSource(16)), true}
	for range 300 {
		e, a, b, c := m.env(), m.typ(3), m.typ(3), m.typ(2)
		sub, fits, left := Sub(e, a, b), Fits(e, a, b), texts(Least(e, []api.T{a, b, c}))
		for range 4 {
			if Sub(e, a, b) != sub || Fits(e, a, b) != fits || texts(Least(e, []api.T{a, b, c})) != left {
				t.Fatalf("R6: %s and %s: told another way", print.Type(a), print.Type(b))
			}
		}
	}
}

// A reference may have the name that is the text of the union of none.
func TestNeverAsAName(t *testing.T) {
	never := ref("never")
	for _, c := range []struct {
		a, b      api.T
		sub, fits bool
	}{
		{never, never, true, true},
		{uni(), never, true, true},
		{never, uni(), false, false},
		{never, tDyn, true, true},
		{never, tInt, false, true},
		{uni(), tInt, true, true},
	} {
		if Sub(nil, c.a, c.b) != c.sub || Fits(nil, c.a, c.b) != c.fits {
			t.Errorf("P9.1: %+v and %+v: want %v, %v", c.a, c.b, c.sub, c.fits)
		}
		if Sub(nil, rec("a", c.a), rec("a", c.b)) != c.sub || Fits(nil, rec("a", c.a), rec("a", c.b)) != c.fits {
			t.Errorf("P9.1: in records %+v and %+v: want %v, %v", c.a, c.b, c.sub, c.fits)
		}
	}
}

// Names of other bytes are never taken for one another, or for what stands beside them.
func TestNamesOfAnyBytes(t *testing.T) {
	names := []string{"", " ", "a", "\"a\"", "a\" \"b", "\\", "\xff", "\xfe", "\ufffd", "1", " 1", "a 1", "\x00"}
	for _, x := range names {
		for _, y := range names {
			a, b := rec("", tInt), rec("", tInt)
			a.Names, b.Names = []string{x}, []string{y}
			if Sub(nil, a, b) != (x == y) || Sub(nil, fun(tInt, a), fun(tInt, b)) != (x == y) {
				t.Errorf("P9.1: of %q and %q", x, y)
			}
			e := alias.New([]alias.Def{{Name: x, T: tInt}})
			if Sub(e, ref(y), tInt) != (x == y) {
				t.Errorf("P9.1: of %q, with %q", y, x)
			}
		}
	}
}

// R1: what no chapter puts together makes no panic.
func TestWhatIsNoType(t *testing.T) {
	var odd []api.T
	for _, kind := range []int{math.MinInt, -1, 0, api.KInt, api.KBool, api.KText, api.KDyn, api.KRec, api.KFun, api.KUnion, api.KRef, api.KRef + 1, math.MaxInt} {
		odd = append(odd,
			api.T{Kind: kind},
			api.T{Kind: kind, Name: "x", Names: []string{"b", "a"}},
			api.T{Kind: kind, Names: []string{"a", "a"}, L: []api.T{{}}},
			api.T{Kind: kind, L: []api.T{{Kind: kind}, {}, {Kind: api.KDyn}, {Kind: api.KUnion}}})
	}
	e := alias.New([]alias.Def{{Name: "", T: ref("x")}, {Name: "x", T: odd[7]}})
	for _, a := range odd {
		if !Sub(e, a, a) || !Equal(e, a, a) {
			t.Errorf("P9.3: %+v isn't equal to itself", a)
		}
		for _, b := range odd {
			Sub(e, a, b)
			Fits(e, a, b)
			Equal(e, a, b)
		}
	}
	Least(e, odd)
}

func FuzzSub(f *testing.F) {
	f.Add("type p = int | {a: p}; type q = int | {a: p, b: q} | ?;", "p | {}", "{a: q} -> p")
	f.Add("type p = p; type q = {a: q} | {a: p};", "q", "{a: {a: q}}")
	f.Fuzz(func(t *testing.T, src, one, other string) {
		l, _ := parse.Parse(src)
		var defs []alias.Def
		for _, d := range l {
			if d.Kind == api.DType {
				defs = append(defs, alias.Def{Name: d.Name, T: d.Ts[0]})
			}
		}
		a, ok := parse.Type(one)
		b, good := parse.Type(other)
		if !ok || !good || len(src)+len(one)+len(other) > 400 {
			return
		}
		e := alias.New(defs)
		if sub, fits := related(e, a, b, false), related(e, a, b, true); Sub(e, a, b) != sub || Fits(e, a, b) != fits {
			t.Errorf("P9.1: of %s and %s, with %s: %v, %v", one, other, told(e), Sub(e, a, b), Fits(e, a, b))
		}
	})
}
