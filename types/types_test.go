package types

import (
	"fmt"
	"math"
	"math/rand"
	"slices"
	"strings"
	"testing"

	"cupel/api"
	"cupel/parse"
	"cupel/print"
)

var (
	tInt  = api.T{Kind: api.KInt}
	tBool = api.T{Kind: api.KBool}
	tText = api.T{Kind: api.KText}
	tDyn  = api.T{Kind: api.KDyn}
)

func ref(name string) api.T    { return api.T{Kind: api.KRef, Name: name} }
func fun(from, to api.T) api.T { return api.T{Kind: api.KFun, L: []api.T{from, to}} }
func uni(parts ...api.T) api.T { return api.T{Kind: api.KUnion, L: parts} }

func rec(names string, l ...api.T) api.T {
	return api.T{Kind: api.KRec, Names: strings.Fields(names), L: l}
}

func parsed(t *testing.T, src string) api.T {
	t.Helper()
	typ, ok := parse.Type(src)
	if !ok {
		t.Fatalf("%q is no type", src)
	}
	return typ
}

// A list without items may be nil or empty.
func same(a, b api.T) bool {
	return a.Kind == b.Kind && a.Name == b.Name && slices.Equal(a.Names, b.Names) && slices.EqualFunc(a.L, b.L, same)
}

// literal makes normal in the chapter's words, one behind the other.
func literal(t api.T) api.T {
	made := api.T{Kind: t.Kind, Name: t.Name, Names: t.Names}
	for _, part := range t.L {
		made.L = append(made.L, literal(part))
	}
	if t.Kind != api.KUnion {
		return made
	}
	var all, left []api.T
	for _, part := range made.L {
		if part.Kind == api.KUnion {
			all = append(all, part.L...)
		} else {
			all = append(all, part)
		}
	}
	for _, part := range all {
		if part.Kind == api.KDyn {
			return tDyn
		}
		if !slices.ContainsFunc(left, func(x api.T) bool { return print.Type(x) == print.Type(part) }) {
			left = append(left, part)
		}
	}
	slices.SortFunc(left, func(a, b api.T) int { return strings.Compare(print.Type(a), print.Type(b)) })
	if len(left) == 1 {
		return left[0]
	}
	return uni(left...)
}

// whyNotNormal is in what a type isn't normal; nothing, if it is. The union of none is the one without two parts.
func whyNotNormal(t api.T) string {
	for _, part := range t.L {
		if why := whyNotNormal(part); why != "" {
			return why
		}
	}
	if t.Kind != api.KUnion {
		return ""
	}
	if len(t.L) == 1 {
		return "a union of one"
	}
	for i, part := range t.L {
		switch {
		case part.Kind == api.KUnion:
			return "a union in a union"
		case part.Kind == api.KDyn:
			return "a union with ?"
		case i > 0 && print.Type(t.L[i-1]) >= print.Type(part):
			return "a union whose parts are alike, or in no order"
		}
	}
	return ""
}

// wantNorm asks for a type's normal one and for all that hangs on it, by itself and within other types.
func wantNorm(t *testing.T, typ, want api.T) {
	t.Helper()
	for _, c := range []struct{ typ, want api.T }{
		{typ, want},
		{rec("a b", tInt, typ), rec("a b", tInt, want)},
		{rec("a", rec("b", typ)), rec("a", rec("b", want))},
		{fun(typ, tInt), fun(want, tInt)},
		{fun(tInt, typ), fun(tInt, want)},
		{fun(tInt, fun(typ, typ)), fun(tInt, fun(want, want))},
		{uni(typ), want},
		{uni(typ, typ), want},
		{uni(uni(), uni(typ, uni(uni(typ)))), want},
		{uni(rec("a", typ), tInt), uni(tInt, rec("a", want))},
		{uni(typ, tDyn), tDyn},
	} {
		if got := Norm(c.typ); !same(got, c.want) {
			t.Errorf("P7.1: Norm of %s = %+v, want %+v", print.Type(c.typ), got, c.want)
		}
		wantAllOfNorm(t, c.typ)
	}
}

// wantAllOfNorm holds what is told of a type against the chapter's words.
func wantAllOfNorm(t *testing.T, typ api.T) {
	t.Helper()
	text := print.Type(typ)
	normal := Norm(typ)
	if want := literal(typ); !same(normal, want) {
		t.Errorf("P7.1: Norm of %s = %+v, want %+v", text, normal, want)
	}
	if why := whyNotNormal(normal); why != "" {
		t.Errorf("P7.1: Norm of %s has %s: %s", text, why, print.Type(normal))
	}
	if again := Norm(normal); !same(again, normal) {
		t.Errorf("P7.3: Norm of %s made normal again: %+v, want %+v", text, again, normal)
	}
	if got, want := Text(typ), print.Type(normal); got != want || Text(normal) != want {
		t.Errorf("P7.1: Text of %s = %q, of its Norm %q, want %q", text, got, Text(normal), want)
	}
	if !Alike(typ, normal) || !Alike(normal, typ) || !Alike(typ, typ) {
		t.Errorf("P7.1: %s isn't alike its Norm, or itself", text)
	}
	if got := Join(typ); !same(got, normal) {
		t.Errorf("P7.1: Join of %s = %+v, want %+v", text, got, normal)
	}
}

// P7.1: the chapter's example.
func TestExample(t *testing.T) {
	if got := Text(parsed(t, "bool | int | bool")); got != "bool | int" {
		t.Errorf("P7.1: Text = %q", got)
	}
}

// P7.1: what is normal already.
func TestNormal(t *testing.T) {
	for _, typ := range []api.T{
		tInt, tBool, tText, tDyn, ref("t"), ref("_a1"), ref("f.t"), uni(),
		rec(""), rec("a", tInt), rec("a b c", tDyn, rec(""), rec("a b", tBool, ref("t"))),
		fun(tInt, tBool), fun(tDyn, tDyn), fun(fun(tInt, tInt), fun(tInt, tInt)),
		fun(uni(tBool, tInt), uni(tInt, tText)),
		rec("a b", uni(tBool, tInt), fun(tInt, uni(tBool, tInt))),
	} {
		wantNorm(t, typ, typ)
	}
}

func TestNormOfUnions(t *testing.T) {
	abc := uni(ref("a"), ref("b"), ref("c"))
	for _, c := range []struct{ typ, want api.T }{
		// In no order.
		{uni(tInt, tBool), uni(tBool, tInt)},
		{uni(tText, tInt, tBool), uni(tBool, tInt, tText)},
		{uni(ref("c"), ref("a"), ref("b")), abc},
		// There already, beside it and not.
		{uni(tInt, tInt), tInt},
		{uni(tInt, tBool, tInt), uni(tBool, tInt)},
		{uni(ref("b"), ref("a"), ref("b"), ref("c"), ref("a")), abc},
		{uni(rec("a", tInt), rec("a", tInt)), rec("a", tInt)},
		{uni(fun(tInt, tInt), tInt, fun(tInt, tInt)), uni(tInt, fun(tInt, tInt))},
		// There already, but for what isn't normal yet.
		{uni(rec("a", uni(tInt, tBool)), rec("a", uni(tBool, tInt))), rec("a", uni(tBool, tInt))},
		{uni(fun(uni(tInt), tInt), fun(tInt, uni(tInt, tInt))), fun(tInt, tInt)},
		{uni(rec("a", uni(tInt, tDyn)), rec("a", tDyn)), rec("a", tDyn)},
		// Unions in unions.
		{uni(uni(ref("c"), ref("b")), ref("a")), abc},
		{uni(ref("c"), uni(ref("b"), uni(ref("a"), ref("c")))), abc},
		{uni(uni(uni(ref("c")), ref("b")), uni(ref("a"), uni(ref("b")))), abc},
		{uni(uni(tInt, tBool), uni(tBool, tInt)), uni(tBool, tInt)},
		// A part that is ?.
		{uni(tDyn), tDyn},
		{uni(tDyn, tDyn), tDyn},
		{uni(tDyn, tInt), tDyn},
		{uni(tInt, tDyn), tDyn},
		{uni(tInt, tBool, tDyn, ref("t")), tDyn},
		{uni(tInt, uni(tBool, uni(tDyn))), tDyn},
		{uni(uni(tDyn, tInt), rec("a", tInt), ref("t")), tDyn},
		// ? within a part is none of the union's parts.
		{uni(rec("a", tDyn), tInt), uni(tInt, rec("a", tDyn))},
		{uni(fun(tDyn, tDyn), tInt), uni(fun(tDyn, tDyn), tInt)},
		// One and none.
		{uni(tInt), tInt},
		{uni(uni(uni(tInt))), tInt},
		{uni(ref("t")), ref("t")},
		{uni(rec("a", uni(tInt))), rec("a", tInt)},
		{uni(uni()), uni()},
		{uni(uni(), uni(uni(), uni())), uni()},
		{uni(uni(), tInt), tInt},
		{uni(tInt, uni(), tBool), uni(tBool, tInt)},
		{uni(uni(), tDyn), tDyn},
	} {
		wantNorm(t, c.typ, c.want)
	}
}

// P7.1: the order is the one of the bytes of the parts' texts, with the marks that stand in these.
func TestOrderOfParts(t *testing.T) {
	inOrder := []string{
		"((int -> int) -> int) -> int", "(bool | int) -> a", "(int -> int) -> int", "? -> int", "_", "_1", "__", "a", "a -> int", "a1", "a_", "aa",
		"b", "boo", "bool", "bool -> a", "bool -> a -> a", "bool1", "int", "int -> (bool | int)", "int -> int", "int -> {}", "int_",
		"t", "te", "text", "text_", "z", "{a: ?}", "{a: a, b: a}", "{a: a}", "{a: bool | int}", "{a: bool}", "{a: {}}", "{aa: a}", "{b: a}", "{}",
	}
	var all []api.T
	for _, s := range inOrder {
		all = append(all, parsed(t, s))
	}
	r := rand.New(rand.NewSource(1))
	for range 200 {
		l := slices.Clone(all)
		r.Shuffle(len(l), func(i, j int) { l[i], l[j] = l[j], l[i] })
		if got := Text(uni(l...)); got != strings.Join(inOrder, " | ") {
			t.Fatalf("P7.1: Text = %q", got)
		}
	}
	for i, a := range all {
		for j, b := range all {
			want := inOrder[min(i, j)] + " | " + inOrder[max(i, j)]
			if i == j {
				want = inOrder[i]
			}
			if got := print.Type(Join(a, b)); got != want {
				t.Errorf("P7.1: Join of %s and %s is %q", inOrder[i], inOrder[j], got)
			}
			if Alike(a, b) != (i == j) {
				t.Errorf("P7.1: Alike of %s and %s is %v", inOrder[i], inOrder[j], i != j)
			}
		}
	}
}

// P7.1: of the normal one, not of the type as it stands.
func TestTexts(t *testing.T) {
	for src, want := range map[string]string{
		"int":                                    "int",
		"text | bool | int":                      "bool | int | text",
		"(int | bool) | text":                    "bool | int | text",
		"int | (? | bool)":                       "?",
		"t | int | t":                            "int | t",
		"{b: int | bool, a: {c: t | ?}}":         "{a: {c: ?}, b: bool | int}",
		"(int | bool) -> (text | int | text)":    "(bool | int) -> (int | text)",
		"(int | int) -> (int | int)":             "int -> int",
		"((int | int) -> int) -> int":            "(int -> int) -> int",
		"int | (int -> (t | (bool | t)))":        "int | int -> (bool | t)",
		"{} | {a: int | bool} | {a: bool | int}": "{a: bool | int} | {}",
		"((a | b) -> c) | ((b | a) -> c)":        "(a | b) -> c",
		"{a: ?} | {a: int | ?} | ?":              "?",
	} {
		if got := Text(parsed(t, src)); got != want {
			t.Errorf("P7.1: Text of %s = %q, want %q", src, got, want)
		}
	}
	for text, typ := range map[string]api.T{
		"never":              uni(),
		"{a: never}":         rec("a", uni(uni())),
		"(never) -> (never)": fun(uni(), uni(uni(), uni())),
		"int | {a: never}":   uni(rec("a", uni()), uni(), tInt),
		"f.t | g.t":          uni(ref("g.t"), ref("f.t"), ref("g.t")),
	} {
		if got := Text(typ); got != text {
			t.Errorf("P7.1: Text = %q, want %q", got, text)
		}
	}
}

func TestAlike(t *testing.T) {
	for _, c := range []struct {
		a, b string
		want bool
	}{
		{"int", "int", true},
		{"int", "int | int", true},
		{"int | bool", "bool | int", true},
		{"int | bool | text", "text | (int | bool)", true},
		{"?", "int | ?", true},
		{"? | t", "u | (? | {})", true},
		{"{a: int, b: t}", "{b: t, a: int | int}", true},
		{"{a: int | bool} | int", "int | {a: bool | int}", true},
		{"(int | bool) -> t", "(bool | int) -> (t | t)", true},
		{"a -> b -> c", "a -> (b -> c)", true},
		{"int", "bool", false},
		{"int", "?", false},
		{"t", "u", false},
		{"int", "int | bool", false},
		{"int | bool", "int | text", false},
		{"int | bool", "int | bool | text", false},
		{"{a: int}", "{a: bool}", false},
		{"{a: int}", "{b: int}", false},
		{"{a: int}", "{a: int, b: int}", false},
		{"{}", "{a: int}", false},
		{"{a: int} | {a: bool}", "{a: int | bool}", false},
		{"int -> bool", "bool -> int", false},
		{"(a -> b) -> c", "a -> b -> c", false},
		{"a -> b | c", "a -> (b | c)", false},
		{"{a: ?}", "?", false},
		{"{a: ?}", "{a: int}", false},
		{"? -> ?", "?", false},
	} {
		a, b := parsed(t, c.a), parsed(t, c.b)
		if Alike(a, b) != c.want || Alike(b, a) != c.want {
			t.Errorf("P7.1: Alike of %s and %s isn't %v", c.a, c.b, c.want)
		}
	}
	if Alike(uni(), tInt) || Alike(uni(), tDyn) || Alike(uni(), rec("")) || !Alike(uni(), uni(uni(), uni())) {
		t.Errorf("P7.1: Alike of the union of none")
	}
}

func TestJoin(t *testing.T) {
	for _, c := range []struct {
		l    []api.T
		want api.T
	}{
		{nil, uni()},
		{[]api.T{}, uni()},
		{[]api.T{uni()}, uni()},
		{[]api.T{uni(), uni()}, uni()},
		{[]api.T{tInt}, tInt},
		{[]api.T{tDyn}, tDyn},
		{[]api.T{uni(tInt, tBool)}, uni(tBool, tInt)},
		{[]api.T{rec("a", uni(tInt, tBool))}, rec("a", uni(tBool, tInt))},
		{[]api.T{tInt, tBool}, uni(tBool, tInt)},
		{[]api.T{tInt, tInt}, tInt},
		{[]api.T{uni(), tInt}, tInt},
		{[]api.T{tInt, uni()}, tInt},
		{[]api.T{tInt, tDyn}, tDyn},
		{[]api.T{tInt, uni(ref("t"), tDyn), tBool}, tDyn},
		{[]api.T{tText, uni(tInt, tBool), uni(tText, tInt)}, uni(tBool, tInt, tText)},
		{[]api.T{ref("t"), fun(tInt, tInt), rec(""), ref("s"), ref("t")}, uni(fun(tInt, tInt), ref("s"), ref("t"), rec(""))},
		// Parts of records aren't joined.
		{[]api.T{rec("a", tInt), rec("a", tBool), rec("a", tDyn)}, uni(rec("a", tDyn), rec("a", tBool), rec("a", tInt))},
	} {
		if got := Join(c.l...); !same(got, c.want) {
			t.Errorf("P7.1: Join of %+v = %+v, want %+v", c.l, got, c.want)
		}
	}
}

// P7.2: of a type as it stands, normal or not.
func TestRefsAndSize(t *testing.T) {
	for _, c := range []struct {
		src, refs string
		size      int
	}{
		{"int", "", 1},
		{"bool", "", 1},
		{"text", "", 1},
		{"?", "", 1},
		{"{}", "", 1},
		{"t", "t", 1},
		{"int -> bool", "", 3},
		{"int | bool", "", 3},
		{"int | bool | text", "", 4},
		{"{a: int}", "", 2},
		{"{t: u}", "u", 2},
		{"{a: t, b: t}", "t", 3},
		{"t | t | t", "t", 4},
		{"? | t", "t", 3},
		{"(b | a) | b", "a b", 5},
		{"b -> a", "a b", 3},
		{"{a: z, b: y, c: x}", "x y z", 4},
		{"c | (b | ? | (a -> int))", "a b c", 8},
		{"{a: t, b: u -> t | int}", "t u", 7},
		{"{x: d -> {y: b | {z: a}}, w: d | c | b} -> a1", "a a1 b c d", 14},
		{"aa | a | a_ | a1 | _ | b", "_ a a1 a_ aa b", 7},
		{"((((t))))", "t", 1},
	} {
		typ := parsed(t, c.src)
		if got := Refs(typ); !slices.Equal(got, strings.Fields(c.refs)) {
			t.Errorf("P7.2: Refs of %s = %q, want %q", c.src, got, c.refs)
		}
		if got := Size(typ); got != c.size {
			t.Errorf("P7.2: Size of %s = %d, want %d", c.src, got, c.size)
		}
	}
	for _, c := range []struct {
		typ  api.T
		refs string
		size int
	}{
		{uni(), "", 1},
		{uni(tInt), "", 2},
		{uni(uni(), uni(uni())), "", 4},
		{rec("a b", uni(ref("u")), fun(uni(), ref("t"))), "t u", 6},
		{uni(ref("g.t"), ref("f.u"), ref("g.s"), ref("f.u")), "f.u g.s g.t", 5},
	} {
		if got := Refs(c.typ); !slices.Equal(got, strings.Fields(c.refs)) {
			t.Errorf("P7.2: Refs of %s = %q, want %q", print.Type(c.typ), got, c.refs)
		}
		if got := Size(c.typ); got != c.size {
			t.Errorf("P7.2: Size of %s = %d, want %d", print.Type(c.typ), got, c.size)
		}
	}
}

// maker puts together types of all kinds.
type maker struct{ *rand.Rand }

func (m maker) typ(depth int) api.T {
	if depth == 0 {
		return []api.T{tInt, tBool, tText, ref("t"), ref("a"), ref("f.t"), rec(""), uni(), tDyn}[m.Intn(9)]
	}
	switch m.Intn(6) {
	case 0:
		return fun(m.typ(depth-1), m.typ(depth-1))
	case 1:
		t := api.T{Kind: api.KRec}
		for _, name := range []string{"_", "a", "b1"} {
			if m.Intn(2) == 0 {
				t.Names = append(t.Names, name)
				t.L = append(t.L, m.typ(depth-1))
			}
		}
		return t
	case 2, 3, 4:
		return uni(m.list(m.Intn(5), depth-1)...)
	}
	return m.typ(0)
}

func (m maker) list(n, depth int) []api.T {
	var l []api.T
	for range n {
		l = append(l, m.typ(depth))
	}
	return l
}

// partsOf counts in another way than by going through a tree.
func partsOf(t api.T, refs map[string]int) int {
	n := 1
	if t.Kind == api.KRef {
		refs[t.Name]++
	}
	for _, part := range t.L {
		n += partsOf(part, refs)
	}
	return n
}

func TestMadeTypes(t *testing.T) {
	m := maker{rand.New(rand.NewSource(2))}
	for i := range 20000 {
		typ := m.typ(i % 6)
		wantAllOfNorm(t, typ)
		refs := map[string]int{}
		if got, want := Size(typ), partsOf(typ, refs); got != want {
			t.Errorf("P7.2: Size of %s = %d, want %d", print.Type(typ), got, want)
		}
		got := Refs(typ)
		if !slices.IsSorted(got) || len(got) != len(refs) || slices.ContainsFunc(got, func(s string) bool { return refs[s] == 0 }) {
			t.Errorf("P7.2: Refs of %s = %q", print.Type(typ), got)
		}
		if t.Failed() {
			return
		}
	}
}

// P7.1: types of few parts, each held against each.
func TestMadeTypesAlike(t *testing.T) {
	m := maker{rand.New(rand.NewSource(3))}
	l := m.list(300, 2)
	for _, a := range l {
		for _, b := range l {
			if got, want := Alike(a, b), same(literal(a), literal(b)); got != want {
				t.Fatalf("P7.1: Alike of %s and %s = %v", print.Type(a), print.Type(b), got)
			}
		}
	}
}

// P7.3: in another order, with doubles, and joined bit by bit, a join is the same.
func TestMadeJoins(t *testing.T) {
	m := maker{rand.New(rand.NewSource(4))}
	for range 5000 {
		l := m.list(m.Intn(6), m.Intn(4))
		want := Join(l...)
		if !same(want, literal(uni(l...))) {
			t.Fatalf("P7.1: Join of %+v = %+v", l, want)
		}
		other := slices.Clone(l)
		for _, i := range m.Perm(len(l)) {
			if m.Intn(2) == 0 {
				other = append(other, []api.T{l[i], Norm(l[i]), uni(l[i])}[m.Intn(3)])
			}
		}
		m.Shuffle(len(other), func(i, j int) { other[i], other[j] = other[j], other[i] })
		cut := m.Intn(len(other) + 1)
		for _, got := range []api.T{
			Join(other...), Join(Join(other[:cut]...), Join(other[cut:]...)), Join(append(slices.Clone(other[cut:]), uni(other[:cut]...))...),
		} {
			if !same(got, want) {
				t.Fatalf("P7.3: Join of %+v = %+v, of %+v = %+v", l, want, other, got)
			}
		}
	}
}

// P7.3: each order of a few types.
func TestEachOrder(t *testing.T) {
	all := []api.T{ref("t"), tInt, rec("a", tInt), fun(tInt, tInt), tInt}
	const want = "int | int -> int | t | {a: int}"
	var order func(done, left []api.T)
	order = func(done, left []api.T) {
		if len(left) == 0 && Text(Join(done...)) != want {
			t.Errorf("P7.3: Join of %+v = %s", done, Text(Join(done...)))
		}
		for i := range left {
			order(append(slices.Clone(done), left[i]), slices.Delete(slices.Clone(left), i, i+1))
		}
	}
	order(nil, all)
}

// A reference may have the name that is the text of the union of none.
func TestNeverAsAName(t *testing.T) {
	never := parsed(t, "never")
	if !same(Norm(never), never) || !Alike(never, uni()) || !slices.Equal(Refs(never), []string{"never"}) {
		t.Errorf("P7.1: Norm of never = %+v", Norm(never))
	}
	if got := Join(uni(), never, tInt); !same(got, uni(tInt, never)) {
		t.Errorf("P7.1: Join = %+v", got)
	}
	// Those that are there already are left out: the first one stays.
	for _, l := range [][]api.T{{rec("a", never), rec("a", uni())}, {rec("a", uni()), rec("a", never)}} {
		if got := Join(l...); !same(got, l[0]) {
			t.Errorf("P7.1: Join of %+v = %+v", l, got)
		}
	}
}

// Types that were put together may nest deeper than a source.
func TestDeepTypes(t *testing.T) {
	const times = 10000
	mixed, unions, given, taken := tInt, tInt, tInt, tInt
	for i := range times {
		mixed = uni(rec("a", mixed), tInt)
		unions = uni(unions, ref(fmt.Sprint("t", i%10)), tInt)
		given, taken = fun(ref("t"), given), fun(taken, ref("t"))
	}
	mixedText := strings.Repeat("int | {a: ", times) + "int" + strings.Repeat("}", times)
	for _, c := range []struct {
		typ  api.T
		text string
		refs int
		size int
	}{
		{mixed, mixedText, 0, 3*times + 1},
		{unions, "int | t0 | t1 | t2 | t3 | t4 | t5 | t6 | t7 | t8 | t9", 10, 3*times + 1},
		{given, strings.Repeat("t -> ", times) + "int", 1, 2*times + 1},
		{taken, strings.Repeat("(", times-1) + "int -> t" + strings.Repeat(") -> t", times-1), 1, 2*times + 1},
	} {
		if got := Text(c.typ); got != c.text {
			t.Errorf("P7.1: the text of a deep type begins with %.40q, want %.40q", got, c.text)
		}
		if got := Norm(c.typ); Size(got) > Size(c.typ) || !same(Norm(got), got) {
			t.Errorf("P7.3: a deep type of the text %.40q isn't normal", c.text)
		}
		if len(Refs(c.typ)) != c.refs || Size(c.typ) != c.size {
			t.Errorf("P7.2: %d references, size %d, want %d, %d", len(Refs(c.typ)), Size(c.typ), c.refs, c.size)
		}
	}
}

func TestManyParts(t *testing.T) {
	const times = 1 << 17
	var l []api.T
	var names []string
	for i := range times {
		name := fmt.Sprintf("t%06d", (i*7919)%times)
		l = append(l, ref(name), ref(name))
		names = append(names, name)
	}
	slices.Sort(names)
	got := Join(l...)
	if len(got.L) != times || Text(got) != strings.Join(names, " | ") {
		t.Errorf("P7.1: Join of many has %d parts", len(got.L))
	}
	if Size(uni(l...)) != 2*times+1 || !slices.Equal(Refs(uni(l...)), names) {
		t.Errorf("P7.2: Refs or Size of many")
	}
}

// filled gives each list a capacity beyond its length, so that what is added to it without a copy is seen in the original.
func filled(t api.T) api.T {
	t.Names = append(make([]string, 0, len(t.Names)+2), t.Names...)
	l := make([]api.T, 0, len(t.L)+2)
	for _, part := range t.L {
		l = append(l, filled(part))
	}
	t.L = l
	return t
}

// spoil writes over all that a type has.
func spoil(t *api.T) {
	for i := range t.L {
		spoil(&t.L[i])
	}
	for i := range t.Names {
		t.Names[i] = "spoilt"
	}
	clear(t.L)
	_ = append(t.L, ref("spoilt"))
	_ = append(t.Names, "spoilt")
	*t = ref("spoilt")
}

// R4: what is handed in stays as it is, and what is told is the caller's.
func TestHandedInStays(t *testing.T) {
	m := maker{rand.New(rand.NewSource(5))}
	for i := range 3000 {
		l := m.list(3, i%5)
		var before, asked []api.T
		for _, typ := range l {
			before = append(before, filled(typ))
			asked = append(asked, filled(typ))
		}
		whole := uni(asked...)
		want := filled(Norm(whole))
		for _, got := range []api.T{Norm(whole), Join(asked...), Norm(rec("a", whole)).L[0]} {
			spoil(&got)
		}
		refs := Refs(whole)
		for j := range refs {
			refs[j] = "spoilt"
		}
		Text(whole)
		Alike(whole, asked[0])
		if !slices.EqualFunc(asked, before, same) || !same(Norm(whole), want) {
			t.Fatalf("R4: %+v isn't any more %+v", asked, before)
		}
	}
}

// R4: no two lists of what is told share anything, even where those that were handed in do.
func TestListsOfItsOwn(t *testing.T) {
	shared := rec("a b", uni(ref("t"), rec("c", tInt)), fun(tInt, tBool))
	typ := rec("a b c", shared, shared, uni(fun(shared, shared), shared, rec("d", shared)))
	got := Norm(typ)
	lists := map[*api.T]int{}
	names := map[*string]int{}
	var count func(api.T)
	count = func(x api.T) {
		for i := range x.L {
			lists[&x.L[i]]++
			count(x.L[i])
		}
		for i := range x.Names {
			names[&x.Names[i]]++
		}
	}
	count(got)
	for _, n := range lists {
		if n > 1 {
			t.Fatalf("R4: a list of types is there %d times", n)
		}
	}
	for _, n := range names {
		if n > 1 {
			t.Fatalf("R4: a list of names is there %d times", n)
		}
	}
	if !same(got, literal(typ)) {
		t.Errorf("P7.1: Norm = %+v", got)
	}
}

// R6: told again it is the same.
func TestToldAgain(t *testing.T) {
	m := maker{rand.New(rand.NewSource(6))}
	for range 500 {
		typ := m.typ(5)
		want := Norm(typ)
		for range 5 {
			if got := Norm(typ); !same(got, want) {
				t.Fatalf("R6: Norm of %s = %+v, and again %+v", print.Type(typ), want, got)
			}
		}
	}
}

// R1: what no chapter puts together makes no panic.
func TestWhatIsNoType(t *testing.T) {
	for _, kind := range []int{math.MinInt, -1, 0, api.KInt, api.KBool, api.KText, api.KDyn, api.KRec, api.KFun, api.KUnion, api.KRef, api.KRef + 1, math.MaxInt} {
		for _, typ := range []api.T{
			{Kind: kind},
			{Kind: kind, Name: "x", Names: []string{"b", "a"}},
			{Kind: kind, Names: []string{"a", "b"}, L: []api.T{{}}},
			{Kind: kind, L: []api.T{{Kind: kind}, {}, {Kind: api.KDyn}, {Kind: api.KUnion}}},
		} {
			Norm(typ)
			Text(typ)
			Alike(typ, api.T{})
			Join(typ, api.T{}, typ)
			Refs(typ)
			if Size(typ) != 1+len(typ.L) {
				t.Errorf("P7.2: Size of %+v = %d", typ, Size(typ))
			}
		}
	}
}

func FuzzParsed(f *testing.F) {
	f.Add("int | (text | int) | {a: int | int}")
	f.Add("(int | ?) -> ({b: t, a: u | (t -> t)} | t | never)")
	f.Fuzz(func(t *testing.T, src string) {
		if typ, ok := parse.Type(src); ok {
			wantAllOfNorm(t, typ)
			if !same(Norm(parsed(t, Text(typ))), Norm(typ)) {
				t.Errorf("P7.3: %s is made normal another way of its text", src)
			}
		}
	})
}
