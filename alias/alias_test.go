package alias

import (
	"fmt"
	"maps"
	"math"
	"math/rand"
	"slices"
	"strings"
	"testing"

	"cupel/api"
	"cupel/parse"
	"cupel/print"
	"cupel/types"
)

var (
	tInt  = api.T{Kind: api.KInt}
	tBool = api.T{Kind: api.KBool}
	tText = api.T{Kind: api.KText}
	tDyn  = api.T{Kind: api.KDyn}
)

func ref(name string) api.T    { return api.T{Kind: api.KRef, Name: name} }
func fun(from, to api.T) api.T { return api.T{Kind: api.KFun, L: []api.T{from, to}} }
func uni(parts ...api.T) api.T { return api.T{Kind: api.KUnion, L: parts} }

func rec(names string, l ...api.T) api.T {
	return api.T{Kind: api.KRec, Names: strings.Fields(names), L: l}
}

func parsed(t *testing.T, src string) api.T {
	t.Helper()
	typ, ok := parse.Type(src)
	if !ok {
		t.Fatalf("%q is no type", src)
	}
	return typ
}

func defsOf(l []api.Decl) []Def {
	var defs []Def
	for _, d := range l {
		if d.Kind == api.DType {
			defs = append(defs, Def{d.Name, d.Ts[0]})
		}
	}
	return defs
}

// definitions are those of a source; nothing else may be wrong in it.
func definitions(t *testing.T, src string) []Def {
	t.Helper()
	l, told := parse.Parse(src)
	if len(told) > 0 {
		t.Fatalf("%q: %+v", src, told)
	}
	return defsOf(l)
}

// A list without items may be nil or empty.
func same(a, b api.T) bool {
	return a.Kind == b.Kind && a.Name == b.Name && slices.Equal(a.Names, b.Names) && slices.EqualFunc(a.L, b.L, same)
}

func texts(l []api.T) string {
	var all []string
	for _, t := range l {
		all = append(all, print.Type(t))
	}
	return strings.Join(all, "; ")
}

// model answers in the chapter's words, without anything that is kept or gone through once.
type model map[string]api.T

func modelOf(l []Def) model {
	m := model{}
	for _, d := range slices.Backward(l) {
		m[d.Name] = types.Norm(d.T)
	}
	return m
}

// leads are the names to which a type leads.
func (m model) leads(t api.T) []string {
	var names []string
	if t.Kind == api.KRef {
		names = append(names, t.Name)
	}
	if t.Kind == api.KUnion {
		for _, part := range t.L {
			names = append(names, m.leads(part)...)
		}
	}
	return names
}

func (m model) empty(name string) bool {
	if _, there := m[name]; !there {
		return true
	}
	come := map[string]bool{}
	for _, next := range m.leads(m[name]) {
		come[next] = true
	}
	for n := -1; n != len(come); {
		n = len(come)
		for _, at := range slices.Collect(maps.Keys(come)) {
			for _, next := range m.leads(m[at]) {
				come[next] = true
			}
		}
	}
	return come[name]
}

func (m model) all(t api.T) []api.T {
	switch {
	case t.Kind == api.KUnion:
		var l []api.T
		for _, part := range t.L {
			l = append(l, m.all(part)...)
		}
		return l
	case t.Kind != api.KRef:
		return []api.T{types.Norm(t)}
	case m.empty(t.Name):
		return []api.T{tDyn}
	}
	return m.all(m[t.Name])
}

func (m model) heads(t api.T) []api.T {
	var left []api.T
	for _, head := range m.all(t) {
		if head.Kind == api.KDyn {
			return []api.T{tDyn}
		}
		if !slices.ContainsFunc(left, func(x api.T) bool { return types.Alike(x, head) }) {
			left = append(left, head)
		}
	}
	slices.SortFunc(left, func(a, b api.T) int { return strings.Compare(types.Text(a), types.Text(b)) })
	return left
}

// wantOfNames holds what is told of names against the chapter's words.
func wantOfNames(t *testing.T, e *Env, m model, names ...string) {
	t.Helper()
	for _, name := range names {
		def, there := m[name]
		if got, ok := e.Def(name); ok != there || !same(got, def) {
			t.Errorf("P8.1: Def(%s) = %+v, %v, want %+v, %v", name, got, ok, def, there)
		}
		empty := m.empty(name)
		if got := e.Empty(name); got != empty {
			t.Errorf("P8.1: Empty(%s) = %v", name, got)
		}
		want := []api.T{tDyn}
		if !empty {
			want = e.Heads(def)
		}
		if got := e.Heads(ref(name)); !slices.EqualFunc(got, want, same) {
			t.Errorf("P8.2: Heads of the reference %s: %s, want %s", name, texts(got), texts(want))
		}
	}
	if got, want := e.Names(), slices.Sorted(maps.Keys(m)); !slices.Equal(got, want) {
		t.Errorf("P8.1: Names() = %q, want %q", got, want)
	}
}

// wantOfType holds what is told of a type against the chapter's words.
func wantOfType(t *testing.T, e *Env, m model, typ api.T) {
	t.Helper()
	want := m.heads(typ)
	if got := e.Heads(typ); !slices.EqualFunc(got, want, same) {
		t.Errorf("P8.1: Heads of %s: %s, want %s", print.Type(typ), texts(got), texts(want))
	}
	for _, other := range []api.T{types.Norm(typ), uni(typ), uni(typ, typ), uni(want...), uni(uni(typ), uni(want...))} {
		if got := e.Heads(other); !slices.EqualFunc(got, want, same) {
			t.Errorf("P8.2: Heads of %s: %s, want %s, those of %s", print.Type(other), texts(got), texts(want), print.Type(typ))
		}
	}
	if got, want := e.Show(typ), print.Type(types.Norm(uni(want...))); got != want {
		t.Errorf("P8.1: Show of %s = %q, want %q", print.Type(typ), got, want)
	}
}

// P8.1: the chapter's example.
func TestExample(t *testing.T) {
	e := New(definitions(t, "type t = int | t;"))
	if !e.Empty("t") || e.Show(ref("t")) != "?" || texts(e.Heads(ref("t"))) != "?" {
		t.Errorf("P8.1: Empty(t) = %v, Show %q", e.Empty("t"), e.Show(ref("t")))
	}
}

func TestDef(t *testing.T) {
	e := New(definitions(t, `
		type b = text | (bool | text); type a = b; type c = {x: int | bool, y: a -> (int | ?)};
		type b = int; type d = int | ?; type a = ?; type d = a; type _ = a | a;`))
	for name, want := range map[string]string{
		// Made normal, but no reference is taken for what it stands for.
		"a": "b", "c": "{x: bool | int, y: a -> ?}", "d": "?", "_": "a",
		// The first one counts, not the last one, nor both.
		"b": "bool | text",
	} {
		if got, ok := e.Def(name); !ok || print.Type(got) != want {
			t.Errorf("P8.1: Def(%s) = %s, %v, want %s", name, print.Type(got), ok, want)
		}
	}
	for _, name := range []string{"", "e", "A", "x", "y", "int", "?", "text", "a ", "ab", "aa"} {
		if got, ok := e.Def(name); ok || !same(got, api.T{}) {
			t.Errorf("P8.1: Def(%q) = %+v, %v", name, got, ok)
		}
	}
	if got := e.Names(); strings.Join(got, " ") != "_ a b c d" {
		t.Errorf("P8.1: Names() = %q", got)
	}
}

// A name may be one that scope makes, or any other text.
func TestNames(t *testing.T) {
	l := []Def{{"g.t", ref("f.t")}, {"f.u", tInt}, {"", tText}, {"f.t", uni(ref("f.u"), ref(""))}, {"g.t", tBool}, {"f", tBool}, {"never", tText}, {"\xff", tInt}, {"f.u", tBool}}
	e := New(l)
	if got := e.Names(); !slices.Equal(got, []string{"", "f", "f.t", "f.u", "g.t", "never", "\xff"}) {
		t.Errorf("P8.1: Names() = %q", got)
	}
	for name, want := range map[string]string{"g.t": "int | text", "f.t": "int | text", "f.u": "int", "": "text", "f": "bool", "never": "text", "\xff": "int", "t": "?", "g": "?", "g.u": "?"} {
		if got := e.Show(ref(name)); got != want {
			t.Errorf("P8.1: Show of %q = %q, want %q", name, got, want)
		}
	}
	wantOfNames(t, e, modelOf(l), "g.t", "f.u", "", "f.t", "f", "never", "\xff", "t", "g")
}

func TestEmpty(t *testing.T) {
	for _, c := range []struct{ src, empty, full string }{
		{"", "a int t", ""},
		// To itself, in one step and in more.
		{"type a = a;", "a b", ""},
		{"type a = b; type b = a;", "a b c", ""},
		{"type a = b; type b = c; type c = d; type d = a;", "a b c d", ""},
		{"type a = int | a;", "a", ""},
		{"type a = a | int;", "a", ""},
		{"type a = a | a;", "a", ""},
		{"type a = (a);", "a", ""},
		{"type a = int | (text | (bool | a));", "a", ""},
		{"type a = int | b; type b = (text | c) | {x: a}; type c = {} | (a | bool);", "a b c", ""},
		// Two circles with a name of both.
		{"type a = b | c; type b = a; type c = a;", "a b c", ""},
		{"type a = b | d; type b = c; type c = a; type d = e; type e = a | int;", "a b c d e", ""},
		// A circle that is closed by way of one that was left already.
		{"type a = b | c; type b = d; type c = d; type d = a;", "a b c d", ""},
		{"type a = b | c | d; type b = a; type c = b; type d = c;", "a b c d", ""},
		// On no circle, but it leads to one, or is led to.
		{"type a = b; type b = b;", "b", "a"},
		{"type a = b | int; type b = c; type c = b | d; type d = text;", "b c", "a d"},
		{"type a = a | b; type b = c; type c = int;", "a", "b c"},
		{"type a = b; type b = a | c; type c = d; type d = e | c; type e = int;", "a b c d", "e"},
		{"type a = a | b; type b = c; type c = c;", "a c", "b"},
		{"type d = c; type c = b; type b = a | c; type a = {};", "b c", "a d"},
		// Far and near, but to none.
		{"type a = int;", "b", "a"},
		{"type a = b | c; type b = d; type c = d | b; type d = int;", "", "a b c d"},
		{"type a = b; type b = text; type c = b | a;", "d", "a b c"},
		// In a record, in a function.
		{"type a = {x: a};", "", "a"},
		{"type a = a -> int;", "", "a"},
		{"type a = int -> a;", "", "a"},
		{"type a = int | {x: int | a};", "", "a"},
		{"type a = int | (a -> a) | {x: a | b}; type b = a;", "", "a b"},
		{"type a = {x: b}; type b = a | int | {y: b};", "", "a b"},
		{"type a = int -> int -> (a | b); type b = a;", "", "a b"},
		{"type a = {x: a} | a;", "a", ""},
		// To one that isn't defined.
		{"type a = b;", "b", "a"},
		{"type a = b | int; type c = {x: d};", "b d", "a c"},
		// The first definition counts.
		{"type a = b; type b = int; type b = a; type a = a;", "", "a b"},
		{"type a = a; type a = int;", "a", ""},
		{"type a = b; type b = a; type a = int; type b = int;", "a b", ""},
		// Made normal, it has no reference any more.
		{"type a = ? | a;", "", "a"},
		{"type a = b; type b = int | (a | ?);", "", "a b"},
		{"type a = {x: ?} | a;", "a", ""},
	} {
		l := definitions(t, c.src)
		e, m := New(l), modelOf(l)
		for _, name := range strings.Fields(c.empty) {
			if !e.Empty(name) {
				t.Errorf("P8.1: %s: Empty(%s) = false", c.src, name)
			}
		}
		for _, name := range strings.Fields(c.full) {
			if e.Empty(name) {
				t.Errorf("P8.1: %s: Empty(%s) = true", c.src, name)
			}
		}
		wantOfNames(t, e, m, "a", "b", "c", "d", "e", "f")
	}
}

func TestHeads(t *testing.T) {
	l := definitions(t, `
		type i = int; type ii = i; type ib = bool | ii; type tib = (ib | text) | i;
		type r = {a: i, b: r | ii}; type rr = r | {a: int, b: ii | r} | {}; type f = r -> (ib | f);
		type e = int | e; type ee = e; type d = ?; type dd = int | d; type u = int | what; type big = rr | f | tib;`)
	e, m := New(l), modelOf(l)
	for src, want := range map[string]string{
		// Neither references nor unions.
		"int": "int", "bool": "bool", "text": "text", "?": "?", "{}": "{}",
		"{b: i, a: ?}":               "{a: ?, b: i}",
		"{a: text | (int | text)}":   "{a: int | text}",
		"(i | (i | i)) -> (ii | ?)":  "i -> ?",
		"e -> what":                  "e -> what",
		"{a: e, b: what, c: d}":      "{a: e, b: what, c: d}",
		"i -> {x: ib} -> (ib | ib)":  "i -> {x: ib} -> ib",
		"(int | int) | (int | int)":  "int",
		"text | int | bool":          "bool; int; text",
		"{b: int} | (int | {a: ii})": "int; {a: ii}; {b: int}",
		// References.
		"i": "int", "ii": "int", "ib": "bool; int", "tib": "bool; int; text",
		"r":     "{a: i, b: ii | r}",
		"rr":    "{a: i, b: ii | r}; {a: int, b: ii | r}; {}",
		"f":     "r -> (f | ib)",
		"i | r": "int; {a: i, b: ii | r}",
		"big":   "bool; int; r -> (f | ib); text; {a: i, b: ii | r}; {a: int, b: ii | r}; {}",
		// Alike ones once, alike as they stand.
		"i | ii | int | (ib | tib)":                         "bool; int; text",
		"{a: i} | {a: int} | {a: i | i}":                    "{a: int}; {a: i}",
		"r | rr | {a: i, b: ii | r}":                        "{a: i, b: ii | r}; {a: int, b: ii | r}; {}",
		"f | (r -> (f | ib)) | (r -> ib)":                   "r -> (f | ib); r -> ib",
		"(i -> i) | (i -> int) | (int -> i) | (int -> int)": "i -> i; i -> int; int -> i; int -> int",
		// ? alone.
		"d": "?", "dd": "?", "e": "?", "ee": "?", "u": "?", "what": "?",
		"int | ?":            "?",
		"{a: int} | (d | i)": "?",
		"big | dd":           "?",
		"big | what":         "?",
		"ee | f":             "?",
		"what | e | d":       "?",
		"{a: ?} | {a: d}":    "{a: ?}; {a: d}",
		"(e -> ?) | i":       "e -> ?; int",
	} {
		typ := parsed(t, src)
		if got := texts(e.Heads(typ)); got != want {
			t.Errorf("P8.1: Heads of %s: %s, want %s", src, got, want)
		}
		wantOfType(t, e, m, typ)
	}
	wantOfNames(t, e, m, append(e.Names(), "what", "a")...)
}

// P8.1: heads are in the order of the bytes of their texts, however far it is to them.
func TestOrderOfHeads(t *testing.T) {
	inOrder := []string{
		"((int -> int) -> int) -> int", "(bool | int) -> a", "(int -> int) -> int", "? -> int", "a -> int", "bool", "bool -> a",
		"int", "int -> (bool | int)", "int -> int", "int -> {}", "text", "{a: ?}", "{a: a, b: a}", "{a: a}", "{a: bool | int}", "{aa: a}", "{b: a}", "{}",
	}
	r := rand.New(rand.NewSource(1))
	for range 100 {
		var l []Def
		var left []api.T
		for i, at := range r.Perm(len(inOrder)) {
			head := parsed(t, inOrder[at])
			switch r.Intn(3) {
			case 0:
				name := fmt.Sprint("t", i)
				l = append(l, Def{name, uni(append(left, head)...)})
				left = []api.T{ref(name)}
			case 1:
				left = append(left, uni(head))
			case 2:
				left = append([]api.T{head, head}, left...)
			}
		}
		e := New(l)
		if got := texts(e.Heads(uni(left...))); got != strings.Join(inOrder, "; ") {
			t.Fatalf("P8.1: Heads: %s", got)
		}
		if got := e.Show(uni(left...)); got != strings.Join(inOrder, " | ") {
			t.Fatalf("P8.1: Show: %s", got)
		}
	}
}

func TestShow(t *testing.T) {
	l := definitions(t, "type a = b | int; type b = c | text; type c = {x: a}; type d = e; type e = int | d; type f = d | bool; type a = bool; type g = int -> (b | a);")
	e, m := New(l), modelOf(l)
	for src, want := range map[string]string{
		"int": "int", "?": "?", "a": "int | text | {x: a}", "b": "text | {x: a}", "c": "{x: a}", "d": "?", "e": "?", "f": "?", "h": "?",
		"g":                 "int -> (a | b)",
		"g | c":             "int -> (a | b) | {x: a}",
		"a | (c | g)":       "int | int -> (a | b) | text | {x: a}",
		"{x: b | a} | bool": "bool | {x: a | b}",
		"a -> b":            "a -> b",
		"(a | d) -> ?":      "(a | d) -> ?",
		"a | d":             "?",
	} {
		if got := e.Show(parsed(t, src)); got != want {
			t.Errorf("P8.1: Show of %s = %q, want %q", src, got, want)
		}
		wantOfType(t, e, m, parsed(t, src))
	}
}

// The union of none, which parse doesn't tell, has no heads.
func TestNoHeads(t *testing.T) {
	l := []Def{{"n", uni()}, {"m", uni(uni(), ref("n"))}, {"o", uni(ref("m"), tInt, uni())}}
	e, m := New(l), modelOf(l)
	for _, c := range []struct {
		typ  api.T
		show string
	}{
		{uni(), "never"}, {uni(uni(), uni(uni())), "never"}, {ref("n"), "never"}, {ref("m"), "never"}, {uni(ref("n"), ref("m")), "never"},
		{ref("o"), "int"}, {uni(uni(), tBool, ref("n")), "bool"}, {uni(uni(), ref("x")), "?"}, {rec("a", uni()), "{a: never}"}, {ref("never"), "?"},
	} {
		if got := e.Show(c.typ); got != c.show {
			t.Errorf("P8.1: Show of %s = %q, want %q", print.Type(c.typ), got, c.show)
		}
		if got := e.Heads(c.typ); (len(got) == 0) != (c.show == "never") {
			t.Errorf("P8.1: Heads of %s: %s", print.Type(c.typ), texts(got))
		}
		wantOfType(t, e, m, c.typ)
	}
	wantOfNames(t, e, m, "n", "m", "o", "never")
}

// Of nil as of no definitions; so is one that New didn't make.
func TestNoDefinitions(t *testing.T) {
	for i, e := range []*Env{nil, {}, New(nil), New([]Def{})} {
		wantOfNames(t, e, model{}, "", "a", "int", "f.t")
		for _, src := range []string{"int", "?", "a", "bool | int | bool", "{a: a | a}", "int | a", "{} | (a -> a) | (int | {})", "a -> b"} {
			wantOfType(t, e, model{}, parsed(t, src))
		}
		if !e.Empty("a") || e.Show(ref("a")) != "?" || e.Show(uni(tText, tInt)) != "int | text" || e.Show(uni()) != "never" || len(e.Names()) != 0 {
			t.Errorf("P8.1: %d isn't as one of no definitions", i)
		}
		if got, ok := e.Def("a"); ok || !same(got, api.T{}) {
			t.Errorf("P8.1: %d: Def(a) = %+v, %v", i, got, ok)
		}
	}
	if New(nil) == nil {
		t.Error("P8.1: New of no definitions is nil")
	}
}

// P8.1: three names, each with each choice of what it may be made of.
func TestAllOfThreeNames(t *testing.T) {
	made := []api.T{ref("a"), ref("b"), ref("c"), tInt, rec("x", ref("a"))}
	var choices []api.T
	for n := range 1 << len(made) {
		choice := uni()
		for i, part := range made {
			if n>>i&1 == 1 {
				choice.L = append(choice.L, part)
			}
		}
		choices = append(choices, choice)
	}
	for i, a := range choices {
		for j, b := range choices {
			for k, c := range choices {
				l := []Def{{"c", c}, {"a", a}, {"b", b}}
				e, m := New(l), modelOf(l)
				for _, name := range []string{"a", "b", "c"} {
					if e.Empty(name) != m.empty(name) || !slices.EqualFunc(e.Heads(ref(name)), m.heads(ref(name)), same) {
						t.Fatalf("P8.1: %d %d %d: Empty(%s) = %v, Show %q", i, j, k, name, e.Empty(name), e.Show(ref(name)))
					}
				}
			}
		}
	}
}

// maker puts together types of all kinds.
type maker struct{ *rand.Rand }

func (m maker) name() string {
	return []string{"a", "b", "c", "d", "e", "f", "g", "h", "f.t", "g.t"}[m.Intn(10)]
}

func (m maker) typ(depth int) api.T {
	if depth == 0 {
		if m.Intn(12) == 0 {
			return []api.T{uni(), tDyn}[m.Intn(2)]
		}
		return []api.T{tInt, tBool, tText, rec(""), ref(m.name()), ref(m.name())}[m.Intn(6)]
	}
	switch m.Intn(6) {
	case 0:
		return fun(m.typ(depth-1), m.typ(depth-1))
	case 1:
		t := api.T{Kind: api.KRec}
		for _, name := range []string{"_", "a", "b1"} {
			if m.Intn(2) == 0 {
				t.Names = append(t.Names, name)
				t.L = append(t.L, m.typ(depth-1))
			}
		}
		return t
	case 2, 3:
		t := uni()
		for range m.Intn(4) {
			t.L = append(t.L, m.typ(depth-1))
		}
		return t
	}
	return m.typ(0)
}

func (m maker) defs(n int) []Def {
	var l []Def
	for range n {
		l = append(l, Def{m.name(), m.typ(m.Intn(4))})
	}
	return l
}

// P8.1 and P8.2.
func TestMadeDefinitions(t *testing.T) {
	m := maker{rand.New(rand.NewSource(2))}
	for i := range 10000 {
		l := m.defs(i % 13)
		e, want := New(l), modelOf(l)
		wantOfNames(t, e, want, "a", "b", "c", "d", "e", "f", "g", "h", "f.t", "g.t", "int", "")
		for depth := range 5 {
			wantOfType(t, e, want, m.typ(depth))
		}
		if t.Failed() {
			t.Fatalf("of the definitions %+v", l)
		}
	}
}

// P8.1: names that lead to few others, so that circles are of many sizes.
func TestMadeCircles(t *testing.T) {
	r := rand.New(rand.NewSource(3))
	for i := range 3000 {
		n := 1 + i%25
		var l []Def
		for j := range n {
			typ := uni(rec("x", ref("t0")))
			for range r.Intn(3) {
				typ.L = append(typ.L, ref(fmt.Sprint("t", r.Intn(n))))
			}
			l = append(l, Def{fmt.Sprint("t", j), typ})
		}
		e, m := New(l), modelOf(l)
		for _, d := range l {
			if e.Empty(d.Name) != m.empty(d.Name) {
				t.Fatalf("P8.1: Empty(%s) = %v of %+v", d.Name, e.Empty(d.Name), l)
			}
		}
	}
}

// P8.1: definitions of other names may be told in any order.
func TestOrderOfDefinitions(t *testing.T) {
	m := maker{rand.New(rand.NewSource(4))}
	for range 500 {
		var l []Def
		for _, d := range m.defs(12) {
			if !slices.ContainsFunc(l, func(x Def) bool { return x.Name == d.Name }) {
				l = append(l, d)
			}
		}
		e := New(l)
		m.Shuffle(len(l), func(i, j int) { l[i], l[j] = l[j], l[i] })
		other := New(l)
		for _, d := range l {
			if e.Empty(d.Name) != other.Empty(d.Name) || e.Show(ref(d.Name)) != other.Show(ref(d.Name)) {
				t.Fatalf("P8.1: of %s another order tells other things: %+v", d.Name, l)
			}
		}
		if !slices.Equal(e.Names(), other.Names()) {
			t.Fatalf("P8.1: Names() = %q, %q", e.Names(), other.Names())
		}
	}
}

// Ways that part and meet again at each step are more than can be gone one by one.
func TestManyWays(t *testing.T) {
	const steps = 200
	for last, want := range map[string]string{"int | bool": "bool | int", "l0": "?", "what": "?", "m7 | int": "?"} {
		var l []Def
		for i := range steps {
			next := uni(ref(fmt.Sprint("l", i+1)), ref(fmt.Sprint("m", i+1)))
			l = append(l, Def{fmt.Sprint("l", i), next}, Def{fmt.Sprint("m", i), next})
		}
		end := parsed(t, last)
		l = append(l, Def{fmt.Sprint("l", steps), end}, Def{fmt.Sprint("m", steps), end})
		e := New(l)
		for _, name := range []string{"l0", "m0", "l100", "m199"} {
			if got := e.Show(ref(name)); got != want {
				t.Errorf("P8.1: %s: Show of %s = %q, want %q", last, name, got, want)
			}
		}
		if got := e.Empty("l100"); got != (last == "l0" || last == "m7 | int") {
			t.Errorf("P8.1: %s: Empty(l100) = %v", last, got)
		}
		if e.Empty("m0") {
			t.Errorf("P8.1: %s: Empty(m0), to which none leads", last)
		}
	}
}

// Names may lead on farther than a source nests, and all may be asked.
func TestLongRow(t *testing.T) {
	const steps = 1 << 16
	row := func(last api.T) *Env {
		var l []Def
		for i := range steps {
			l = append(l, Def{fmt.Sprint("t", i), ref(fmt.Sprint("t", i+1))})
		}
		return New(append(l, Def{fmt.Sprint("t", steps), last}))
	}
	for _, c := range []struct {
		last   api.T
		show   string
		circle int // from which name on they are EMPTY
	}{
		{uni(tInt, tBool), "bool | int", steps + 1},
		{rec("a", ref("t0")), "{a: t0}", steps + 1},
		{ref("what"), "?", steps + 1},
		{ref("t0"), "?", 0},
		{uni(ref("t10"), tInt), "?", 10},
		{ref(fmt.Sprint("t", steps)), "?", steps},
	} {
		e := row(c.last)
		for i := range steps + 1 {
			if name := fmt.Sprint("t", i); e.Empty(name) != (i >= c.circle) {
				t.Fatalf("P8.1: %s: Empty(%s) = %v", print.Type(c.last), name, e.Empty(name))
			}
		}
		for _, i := range []int{0, 9, 11, steps - 1, steps} {
			if got := e.Show(ref(fmt.Sprint("t", i))); got != c.show {
				t.Errorf("P8.1: %s: Show of t%d = %q, want %q", print.Type(c.last), i, got, c.show)
			}
		}
	}
}

// Types that were put together may nest deeper than a source.
func TestDeepTypes(t *testing.T) {
	const times = 10000
	unions, records := ref("t"), ref("t")
	for range times {
		unions = uni(unions, tInt)
		records = rec("a", records)
	}
	deep := strings.Repeat("{a: ", times) + "t" + strings.Repeat("}", times)
	e := New([]Def{{"t", tBool}, {"u", unions}, {"r", records}, {"c", uni(unions, ref("c"))}})
	for _, c := range []struct {
		typ  api.T
		show string
	}{
		{unions, "bool | int"}, {ref("u"), "bool | int"}, {records, deep}, {uni(unions, ref("r"), records), "bool | int | " + deep}, {ref("c"), "?"},
	} {
		if got := e.Show(c.typ); got != c.show {
			t.Errorf("P8.1: Show of a deep type begins with %.40q, want %.40q", got, c.show)
		}
	}
}

func TestManyHeads(t *testing.T) {
	const times = 1 << 14
	var l []Def
	var want []string
	for i := range times {
		head := fmt.Sprintf("{a%06d: int}", (i*7919)%times)
		want = append(want, head)
		l = append(l, Def{fmt.Sprint("t", i), uni(ref(fmt.Sprint("t", i+1)), parsed(t, head), tInt)})
	}
	slices.Sort(want)
	e := New(append(l, Def{fmt.Sprint("t", times), tInt}))
	if got := e.Show(ref("t0")); got != "int | "+strings.Join(want, " | ") {
		t.Errorf("P8.1: Show of many begins with %.80q", got)
	}
	if got := e.Heads(uni(ref("t9"), ref("t0"), ref("t5"))); len(got) != times+1 {
		t.Errorf("P8.1: %d heads of many", len(got))
	}
}

// filled gives each list a capacity beyond its length, so that what is added to it without a copy is seen in the original.
func filled(t api.T) api.T {
	t.Names = append(make([]string, 0, len(t.Names)+2), t.Names...)
	l := make([]api.T, 0, len(t.L)+2)
	for _, part := range t.L {
		l = append(l, filled(part))
	}
	t.L = l
	return t
}

// spoil writes over all that a list of types has, and behind it.
func spoil(l []api.T) {
	for i := range l {
		spoil(l[i].L)
		names := l[i].Names[:cap(l[i].Names)]
		for j := range names {
			names[j] = "spoilt"
		}
	}
	l = l[:cap(l)]
	for i := range l {
		l[i] = ref("spoilt")
	}
}

// R4: what is handed in stays, and is nobody else's: what becomes of it, and of what was told, isn't seen.
func TestHandedInStays(t *testing.T) {
	m := maker{rand.New(rand.NewSource(5))}
	for i := range 2000 {
		l := m.defs(8)
		var asked []Def
		for _, d := range l {
			asked = append(asked, Def{d.Name, filled(d.T)})
		}
		want := modelOf(l)
		e := New(asked)
		typ := m.typ(i % 5)
		handed := filled(typ)
		spoil(e.Heads(handed))
		e.Show(handed)
		if !same(handed, typ) || !slices.EqualFunc(asked, l, func(a, b Def) bool { return a.Name == b.Name && same(a.T, b.T) }) {
			t.Fatalf("R4: %+v isn't any more %+v, or %+v isn't %+v", handed, typ, asked, l)
		}
		for j := range asked {
			spoil([]api.T{asked[j].T})
			asked[j] = Def{"spoilt", ref("spoilt")}
		}
		names := e.Names()
		for j, name := range names {
			if def, ok := e.Def(name); ok {
				spoil([]api.T{def})
				spoil(def.L)
			}
			spoil(e.Heads(ref(name)))
			names[j] = "spoilt"
		}
		wantOfNames(t, e, want, "a", "b", "c", "d", "e", "f", "g", "h", "f.t", "g.t", "spoilt")
		wantOfType(t, e, want, typ)
		if t.Failed() {
			t.Fatalf("R4: of the definitions %+v", l)
		}
	}
}

// R4: no two lists of what is told share anything, even where those that were handed in do.
func TestListsOfItsOwn(t *testing.T) {
	shared := rec("a b", uni(ref("t"), rec("c", tInt)), fun(tInt, tBool))
	e := New([]Def{{"t", uni(shared, fun(shared, shared))}, {"u", uni(ref("t"), rec("d", shared))}})
	def, _ := e.Def("u")
	told := slices.Concat(e.Heads(ref("t")), e.Heads(ref("u")), e.Heads(uni(shared, ref("u"), rec("e", shared))), []api.T{def})
	lists := map[*api.T]int{}
	names := map[*string]int{}
	var count func([]api.T)
	count = func(l []api.T) {
		for i := range l {
			lists[&l[i]]++
			count(l[i].L)
			for j := range l[i].Names {
				names[&l[i].Names[j]]++
			}
		}
	}
	count(told)
	count([]api.T{shared})
	for _, n := range lists {
		if n > 1 {
			t.Fatalf("R4: a list of types is there %d times", n)
		}
	}
	for _, n := range names {
		if n > 1 {
			t.Fatalf("R4: a list of names is there %d times", n)
		}
	}
}

// R6: what was asked ahead isn't seen, nor is anything else.
func TestToldAgain(t *testing.T) {
	m := maker{rand.New(rand.NewSource(6))}
	for range 300 {
		l := m.defs(10)
		e := New(l)
		typ := m.typ(4)
		want := e.Heads(typ)
		for range 5 {
			e.Heads(m.typ(3))
			e.Empty(m.name())
			if got := e.Heads(typ); !slices.EqualFunc(got, want, same) {
				t.Fatalf("R6: Heads of %s: %s, and again %s", print.Type(typ), texts(want), texts(got))
			}
			if got := New(l).Heads(typ); !slices.EqualFunc(got, want, same) {
				t.Fatalf("R6: Heads of %s: %s, and of another one %s", print.Type(typ), texts(want), texts(got))
			}
		}
	}
}

// R1: what no chapter puts together makes no panic.
func TestWhatIsNoType(t *testing.T) {
	for _, kind := range []int{math.MinInt, -1, 0, api.KInt, api.KBool, api.KText, api.KDyn, api.KRec, api.KFun, api.KUnion, api.KRef, api.KRef + 1, math.MaxInt} {
		for _, typ := range []api.T{
			{Kind: kind},
			{Kind: kind, Name: "x", Names: []string{"b", "a"}},
			{Kind: kind, Names: []string{"a", "b"}, L: []api.T{{}}},
			{Kind: kind, L: []api.T{{Kind: kind}, {}, {Kind: api.KDyn}, {Kind: api.KUnion}}},
		} {
			for _, e := range []*Env{nil, New([]Def{{"x", typ}, {}, {"", typ}, {"y", api.T{}}, {T: ref("")}})} {
				e.Heads(typ)
				e.Show(typ)
				e.Heads(uni(ref("x"), ref(""), ref("y"), typ))
				e.Def("x")
				e.Empty("x")
				e.Empty("")
				e.Names()
			}
		}
	}
}

func FuzzParsed(f *testing.F) {
	f.Add("type a = b | int; type b = c | a; type c = {x: a} | a;", "a | (b -> {x: c}) | int")
	f.Add("type a = ? | a; type a = int; type t = t -> t | {a: t}; type u = t | u | a", "t")
	f.Fuzz(func(t *testing.T, src, of string) {
		decls, _ := parse.Parse(src)
		l := defsOf(decls)
		if len(l) > 20 {
			return
		}
		e, m := New(l), modelOf(l)
		wantOfNames(t, e, m, append(e.Names(), "what")...)
		if typ, ok := parse.Type(of); ok {
			wantOfType(t, e, m, typ)
		}
	})
}
