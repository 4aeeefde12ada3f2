package parse

import (
	"fmt"
	"slices"
	"strings"
	"testing"

	"cupel/api"
)

// Types, expressions and declarations as they are wanted.

var (
	tInt  = api.T{Kind: api.KInt}
	tBool = api.T{Kind: api.KBool}
	tText = api.T{Kind: api.KText}
	tDyn  = api.T{Kind: api.KDyn}
)

func ref(name string) api.T      { return api.T{Kind: api.KRef, Name: name} }
func fun(from, to api.T) api.T   { return api.T{Kind: api.KFun, L: []api.T{from, to}} }
func union(parts ...api.T) api.T { return api.T{Kind: api.KUnion, L: parts} }

func rec(names string, l ...api.T) api.T {
	return api.T{Kind: api.KRec, Names: strings.Fields(names), L: l}
}

func eNum(at int, n int64) api.Expr        { return api.Expr{Kind: api.ENum, At: at, N: n} }
func eText(at int, text string) api.Expr   { return api.Expr{Kind: api.EText, At: at, Name: text} }
func eBool(at int, n int64) api.Expr       { return api.Expr{Kind: api.EBool, At: at, N: n} }
func eName(at int, name string) api.Expr   { return api.Expr{Kind: api.EName, At: at, Name: name} }
func eIf(at int, l ...api.Expr) api.Expr   { return api.Expr{Kind: api.EIf, At: at, L: l} }
func eCall(at int, l ...api.Expr) api.Expr { return api.Expr{Kind: api.ECall, At: at, L: l} }

func eRec(at int, names string, l ...api.Expr) api.Expr {
	return api.Expr{Kind: api.ERec, At: at, Names: strings.Fields(names), L: l}
}

func eField(at int, name string, of api.Expr) api.Expr {
	return api.Expr{Kind: api.EField, At: at, Name: name, L: []api.Expr{of}}
}

func eFun(at int, name string, t api.T, body api.Expr) api.Expr {
	return api.Expr{Kind: api.EFun, At: at, Name: name, L: []api.Expr{body}, Ts: []api.T{t}}
}

func eLet(at int, name string, l ...api.Expr) api.Expr {
	return api.Expr{Kind: api.ELet, At: at, Name: name, L: l}
}

func eAs(at int, e api.Expr, t api.T) api.Expr {
	return api.Expr{Kind: api.EAs, At: at, L: []api.Expr{e}, Ts: []api.T{t}}
}

func dUse(at int, name string) api.Decl { return api.Decl{Kind: api.DUse, At: at, Name: name} }

func dType(at int, name string, t api.T) api.Decl {
	return api.Decl{Kind: api.DType, At: at, Name: name, Ts: []api.T{t}}
}

func dLet(at int, name string, e api.Expr, ts ...api.T) api.Decl {
	return api.Decl{Kind: api.DLet, At: at, Name: name, Ts: ts, Es: []api.Expr{e}}
}

func syntax(at int, name string) api.Diag {
	return api.Diag{At: at, Code: api.DiagSyntax, Name: name}
}
func twice(at int, name string) api.Diag { return api.Diag{At: at, Code: api.DiagTwice, Name: name} }
func tooDeep(at int) api.Diag            { return api.Diag{At: at, Code: api.DiagDepth} }
func noToken(at int) api.Diag            { return api.Diag{At: at, Code: api.DiagToken} }
func tooGreat(at int) api.Diag           { return api.Diag{At: at, Code: api.DiagNumber} }

// A list without items may be nil or empty, so that reflect's equality would ask too much.

func sameT(a, b api.T) bool {
	return a.Kind == b.Kind && a.Name == b.Name && slices.Equal(a.Names, b.Names) && slices.EqualFunc(a.L, b.L, sameT)
}

func sameExpr(a, b api.Expr) bool {
	return a.Kind == b.Kind && a.At == b.At && a.Name == b.Name && a.N == b.N && slices.Equal(a.Names, b.Names) &&
		slices.EqualFunc(a.L, b.L, sameExpr) && slices.EqualFunc(a.Ts, b.Ts, sameT)
}

func sameDecl(a, b api.Decl) bool {
	return a.Kind == b.Kind && a.At == b.At && a.Name == b.Name &&
		slices.EqualFunc(a.Ts, b.Ts, sameT) && slices.EqualFunc(a.Es, b.Es, sameExpr)
}

func wantParse(t *testing.T, src string, decls []api.Decl, told []api.Diag) {
	t.Helper()
	gotDecls, gotTold := Parse(src)
	if !slices.EqualFunc(gotDecls, decls, sameDecl) {
		t.Errorf("P5.1: Parse(%q): declarations\n%+v, want\n%+v", src, gotDecls, decls)
	}
	if !slices.Equal(gotTold, told) {
		t.Errorf("P5.1: Parse(%q): told %+v, want %+v", src, gotTold, told)
	}
}

// wantType asks for a type by itself, and in each place of a declaration where one may stand.
func wantType(t *testing.T, src string, want api.T) {
	t.Helper()
	if got, ok := Type(src); !ok || !sameT(got, want) {
		t.Errorf("P5.1: Type(%q) = %+v, %v, want %+v", src, got, ok, want)
	}
	wantParse(t, "type t = "+src+";", []api.Decl{dType(5, "t", want)}, nil)
	wantParse(t, "let v : "+src+" = 1;", []api.Decl{dLet(4, "v", eNum(len(src)+11, 1), want)}, nil)
	if got, ok := Expr("fun (x : " + src + ") x"); !ok || len(got.Ts) != 1 || !sameT(got.Ts[0], want) {
		t.Errorf("P5.1: Expr of fun with %q: %+v, %v", src, got, ok)
	}
	if got, ok := Expr("(x : " + src + ")"); !ok || len(got.Ts) != 1 || !sameT(got.Ts[0], want) {
		t.Errorf("P5.1: Expr of as %q: %+v, %v", src, got, ok)
	}
}

// wantExpr asks for an expression by itself; in a declaration all its places are so many bytes further on.
func wantExpr(t *testing.T, src string, want api.Expr) {
	t.Helper()
	if got, ok := Expr(src); !ok || !sameExpr(got, want) {
		t.Errorf("P5.1: Expr(%q) =\n%+v, %v, want\n%+v", src, got, ok, want)
	}
	wantParse(t, "let v="+src+";", []api.Decl{dLet(4, "v", moved(want, 6))}, nil)
}

func moved(e api.Expr, by int) api.Expr {
	e.At += by
	e.L = movedAll(e.L, by)
	return e
}

func movedAll(l []api.Expr, by int) []api.Expr {
	l = slices.Clone(l)
	for i := range l {
		l[i] = moved(l[i], by)
	}
	return l
}

func movedDecl(d api.Decl, by int) api.Decl {
	d.At += by
	d.Es = movedAll(d.Es, by)
	return d
}

func wantNoType(t *testing.T, src string) {
	t.Helper()
	if got, ok := Type(src); ok || !sameT(got, api.T{}) {
		t.Errorf("P5.1: Type(%q) = %+v, %v, want nothing", src, got, ok)
	}
}

func wantNoExpr(t *testing.T, src string) {
	t.Helper()
	if got, ok := Expr(src); ok || !sameExpr(got, api.Expr{}) {
		t.Errorf("P5.1: Expr(%q) = %+v, %v, want nothing", src, got, ok)
	}
}

func TestDeclarations(t *testing.T) {
	wantParse(t, "use m;", []api.Decl{dUse(4, "m")}, nil)
	wantParse(t, "type t = int;", []api.Decl{dType(5, "t", tInt)}, nil)
	wantParse(t, "let x = 1;", []api.Decl{dLet(4, "x", eNum(8, 1))}, nil)
	wantParse(t, "let x : bool = 1;", []api.Decl{dLet(4, "x", eNum(15, 1), tBool)}, nil)
	wantParse(t, "use a;type b=c;let d:e=f;use a;",
		[]api.Decl{dUse(4, "a"), dType(11, "b", ref("c")), dLet(19, "d", eName(23, "f"), ref("e")), dUse(29, "a")}, nil)
	wantParse(t, " use # a;\n m # b\n ; # c", []api.Decl{dUse(11, "m")}, nil)
}

func TestNothing(t *testing.T) {
	for _, src := range []string{"", " ", "\t\r\n ", "# let x = 1;", "#\n  # use m;\n"} {
		wantParse(t, src, nil, nil)
		wantNoType(t, src)
		wantNoExpr(t, src)
	}
}

func TestPlainTypes(t *testing.T) {
	wantType(t, "int", tInt)
	wantType(t, "bool", tBool)
	wantType(t, "text", tText)
	wantType(t, "?", tDyn)
	wantType(t, "t", ref("t"))
	wantType(t, "_1", ref("_1"))
	wantType(t, "(int)", tInt)
	wantType(t, "((t))", ref("t"))
	wantType(t, " # a remark\n ( t # another one\n )\t", ref("t"))
}

func TestRecordTypes(t *testing.T) {
	wantType(t, "{}", rec(""))
	wantType(t, "{ }", rec(""))
	wantType(t, "{a: int}", rec("a", tInt))
	wantType(t, "{b: int, a: bool}", rec("a b", tBool, tInt))
	wantType(t, "{b: int, c: text, aa: ?, a: bool, _: t, a1: u}",
		rec("_ a a1 aa b c", ref("t"), tBool, ref("u"), tDyn, tInt, tText))
	wantType(t, "{b: {d: int, c: {}}, a: int | bool, c: int -> int}",
		rec("a b c", union(tInt, tBool), rec("c d", rec(""), tInt), fun(tInt, tInt)))
}

func TestArrows(t *testing.T) {
	wantType(t, "int -> bool", fun(tInt, tBool))
	wantType(t, "a -> b -> c", fun(ref("a"), fun(ref("b"), ref("c"))))
	wantType(t, "(a -> b) -> c", fun(fun(ref("a"), ref("b")), ref("c")))
	wantType(t, "a -> (b -> c)", fun(ref("a"), fun(ref("b"), ref("c"))))
	wantType(t, "{a: b} -> ?", fun(rec("a", ref("b")), tDyn))
}

func TestUnions(t *testing.T) {
	wantType(t, "int | bool", union(tInt, tBool))
	wantType(t, "text|int|bool|int", union(tText, tInt, tBool, tInt))
	wantType(t, "a -> b | c", union(fun(ref("a"), ref("b")), ref("c")))
	wantType(t, "a | b -> c | d", union(ref("a"), fun(ref("b"), ref("c")), ref("d")))
	wantType(t, "a -> (b | c)", fun(ref("a"), union(ref("b"), ref("c"))))
	wantType(t, "(a | b) -> c", fun(union(ref("a"), ref("b")), ref("c")))
	wantType(t, "(a | b) | c", union(union(ref("a"), ref("b")), ref("c")))
	wantType(t, "a | (b | c)", union(ref("a"), union(ref("b"), ref("c"))))
	wantType(t, "(a)", ref("a"))
}

func TestBasicExpressions(t *testing.T) {
	wantExpr(t, "0", eNum(0, 0))
	wantExpr(t, " 42", eNum(1, 42))
	wantExpr(t, "007", eNum(0, 7))
	wantExpr(t, "999999999999999999", eNum(0, 999999999999999999))
	wantExpr(t, `""`, eText(0, ""))
	wantExpr(t, ` "a; b"`, eText(1, "a; b"))
	wantExpr(t, `"let"`, eText(0, "let"))
	wantExpr(t, "true", eBool(0, 1))
	wantExpr(t, " false", eBool(1, 0))
	wantExpr(t, "x", eName(0, "x"))
	wantExpr(t, "{}", eRec(0, ""))
	wantExpr(t, " {a = 1}", eRec(1, "a", eNum(6, 1)))
	wantExpr(t, "{b = 1, a = x, c = {}}", eRec(0, "b a c", eNum(5, 1), eName(12, "x"), eRec(19, "")))
	wantExpr(t, "(7)", eNum(1, 7))
	wantExpr(t, "(((x)))", eName(3, "x"))
	wantExpr(t, "(x : int)", eAs(0, eName(1, "x"), tInt))
	wantExpr(t, " ((x) : int | ?)", eAs(1, eName(3, "x"), union(tInt, tDyn)))
	wantExpr(t, "((x : int) : ?)", eAs(0, eAs(1, eName(2, "x"), tInt), tDyn))
	wantExpr(t, "((x : int))", eAs(1, eName(2, "x"), tInt))
}

func TestGreaterExpressions(t *testing.T) {
	wantExpr(t, "fun (x : int) y", eFun(0, "x", tInt, eName(14, "y")))
	wantExpr(t, " fun(x:?)fun(y:t)x", eFun(1, "x", tDyn, eFun(9, "y", ref("t"), eName(17, "x"))))
	wantExpr(t, "let x = 1 in y", eLet(0, "x", eNum(8, 1), eName(13, "y")))
	wantExpr(t, "let x = let y = 1 in 2 in 3", eLet(0, "x", eLet(8, "y", eNum(16, 1), eNum(21, 2)), eNum(26, 3)))
	wantExpr(t, "if a then b else c", eIf(0, eName(3, "a"), eName(10, "b"), eName(17, "c")))
	wantExpr(t, "if a then if b then 1 else 2 else 3",
		eIf(0, eName(3, "a"), eIf(10, eName(13, "b"), eNum(20, 1), eNum(27, 2)), eNum(34, 3)))
	wantExpr(t, "if a then 1 else f(2)", eIf(0, eName(3, "a"), eNum(10, 1), eCall(18, eName(17, "f"), eNum(19, 2))))
	wantExpr(t, "fun (x : int) x(1)", eFun(0, "x", tInt, eCall(15, eName(14, "x"), eNum(16, 1))))
	wantExpr(t, "(fun (x : int) x)(1)", eCall(17, eFun(1, "x", tInt, eName(15, "x")), eNum(18, 1)))
	wantExpr(t, "(let x = 1 in x).a", eField(17, "a", eLet(1, "x", eNum(9, 1), eName(14, "x"))))
}

func TestCallsAndFields(t *testing.T) {
	wantExpr(t, "f(1)", eCall(1, eName(0, "f"), eNum(2, 1)))
	wantExpr(t, "a.b", eField(2, "b", eName(0, "a")))
	wantExpr(t, "a . b", eField(4, "b", eName(0, "a")))
	wantExpr(t, "f(1)(2)", eCall(4, eCall(1, eName(0, "f"), eNum(2, 1)), eNum(5, 2)))
	wantExpr(t, "a.b.c", eField(4, "c", eField(2, "b", eName(0, "a"))))
	wantExpr(t, "a.b(1).c(2)",
		eCall(8, eField(7, "c", eCall(3, eField(2, "b", eName(0, "a")), eNum(4, 1))), eNum(9, 2)))
	wantExpr(t, "f(g(1))", eCall(1, eName(0, "f"), eCall(3, eName(2, "g"), eNum(4, 1))))
	wantExpr(t, "1.a", eField(2, "a", eNum(0, 1)))
	wantExpr(t, `"s"(true)`, eCall(3, eText(0, "s"), eBool(4, 1)))
	wantExpr(t, "{a = 1}.a", eField(8, "a", eRec(0, "a", eNum(5, 1))))
	wantExpr(t, "(x : t)(1)", eCall(7, eAs(0, eName(1, "x"), ref("t")), eNum(8, 1)))
	wantExpr(t, "f\n(1)", eCall(2, eName(0, "f"), eNum(3, 1)))
}

// Each way in which something stands one deeper: what opens the declaration, what is ahead of each and behind it, and where in that the first one begins that is so deep (in most it is the core itself).
var nestings = []struct {
	name, open, ahead, core, behind, end string
	first                                int
}{
	{"a type in ( )", "type t = ", "(", "int", ")", ";", 1},
	{"a field's type", "type t = ", "{a: ", "int", "}", ";", 4},
	{"a later field's type", "type t = ", "{b: int, a: ", "t", ", c: int}", ";", 4},
	{"a type behind ->", "type t = ", "int -> ", "?", "", ";", 7},
	{"a type behind -> in a union", "type t = int | ", "int -> ", "{}", "", ";", 7},
	{"a union in ( )", "let v : ", "int | (", "bool", ") -> int", " = 1;", 7},
	{"an expression in ( )", "let v = ", "(", "1", ")", ";", 1},
	{"an expression as a type", "let v = ", "(", "x", " : int)", ";", 1},
	{"a function's body", "let v = ", "fun (x : int) ", `"a"`, "", ";", 9},
	{"a let's value", "let v = ", "let x = ", "true", " in x", ";", 8},
	{"a let's body", "let v = ", "let x = 1 in ", "false", "", ";", 8},
	{"what an if asks", "let v = ", "if ", "1", " then 2 else 3", ";", 3},
	{"an if's then", "let v = ", "if 1 then ", "{}", " else 3", ";", 3},
	{"an if's else", "let v = ", "if 1 then 2 else ", "3", "", ";", 3},
	{"what is given to a call", "let v = ", "f(", "1", ")", ";", 2},
	{"what is given to a call of a field", "let v = ", "f.a(", "1", ")", ";", 4},
	{"a record's item", "let v = ", "{a = ", "x", "}", ";", 5},
	{"a record's later item", "let v = ", "{b = 1, a = ", "x.y", ", c = 2}", ";", 5},
	// Within an expression a type begins at the depth 2.
	{"a type of a function", "let v = fun (x : ", "(", "int", ")", ") x;", 1},
	{"a type that an expression is as", "let v = (1 : ", "(", "int", ")", ");", 1},
}

func TestDepth(t *testing.T) {
	for _, n := range nestings {
		source := func(times int) string {
			return n.open + strings.Repeat(n.ahead, times) + n.core + strings.Repeat(n.behind, times) + n.end
		}
		most := api.MaxDepth - 1
		if strings.Contains(n.open, "(") {
			most--
		}
		if l, told := Parse(source(most)); len(l) != 1 || len(told) != 0 {
			t.Errorf("P5.1: %s, of the depth 64: %d declarations, told %+v", n.name, len(l), told)
		}
		want := []api.Diag{tooDeep(len(n.open) + most*len(n.ahead) + n.first)}
		src := source(most + 1)
		wantParse(t, src+" use m;", []api.Decl{dUse(len(src)+5, "m")}, want)
		wantParse(t, source(1000), nil, want)
	}
}

// What stands in something of the depth 64 is too deep, whichever part of what it stands in that is.
func TestDepthOfEachPart(t *testing.T) {
	within := func(open, s string) string {
		return open + strings.Repeat("(", api.MaxDepth-2) + s + strings.Repeat(")", api.MaxDepth-2) + ";"
	}
	for _, s := range []string{
		"((#3))", "fun (x : (#int)) x", "fun (x : t -> #int) x", "fun (x : int) (#x)", "let x = (#1) in x", "let x = 1 in (#x)",
		"if f(#1) then 2 else 3", "if 1 then f(#2) else 3", "if 1 then 2 else f(#3)", "g({a = #1})", "g.a({a = #1}.b)", "(f)(1)(f(#1))",
		"{a = (#1 : int)}", "{a = 1, b = (#1)}", "(1 : (#int))", "(1 : {a: #int})", "(fun (x : #int) x)", "(let x = #1 in x)",
	} {
		at := strings.IndexByte(s, '#')
		src := within("let v = ", strings.Replace(s, "#", "", 1))
		wantParse(t, src, nil, []api.Diag{tooDeep(8 + api.MaxDepth - 2 + at)})
	}
	for _, s := range []string{
		"((#int))", "(int -> #t)", "int -> t -> #u", "t | t -> t -> #t", "{a: {a: #int}}", "{a: int, b: (#int)}", "(t) -> (#t)", "{a: t} | {b: t -> #u}",
	} {
		src := within("type t = ", strings.Replace(s, "#", "", 1))
		wantParse(t, src, nil, []api.Diag{tooDeep(9 + api.MaxDepth - 2 + strings.IndexByte(s, '#'))})
	}
}

// What stands in a row isn't one in another.
func TestRowsAreNoDepth(t *testing.T) {
	for _, src := range []string{
		"let v = f" + strings.Repeat("(1)", 1000) + ";",
		"let v = a" + strings.Repeat(".b", 1000) + ";",
		"type t = int" + strings.Repeat(" | int", 1000) + ";",
		"type t = int" + strings.Repeat(" | int -> int", 1000) + ";",
	} {
		if l, told := Parse(src); len(l) != 1 || len(told) != 0 {
			t.Errorf("P5.1: %.20q…: %d declarations, told %+v", src, len(l), told)
		}
	}
	var names []string
	for i := range 1000 {
		names = append(names, fmt.Sprintf("a%04d", i))
	}
	got, ok := Type("{" + strings.Join(names, ": int, ") + ": int}")
	if !ok || !slices.Equal(got.Names, names) || len(got.L) != len(names) {
		t.Errorf("P5.1: a record of %d fields: %v, %d names, %d types", len(names), ok, len(got.Names), len(got.L))
	}
}

func TestTypeAndExprDepth(t *testing.T) {
	within := func(s string, times int) string {
		return strings.Repeat("(", times) + s + strings.Repeat(")", times)
	}
	if got, ok := Type(within("int", 63)); !ok || !sameT(got, tInt) {
		t.Errorf("P5.1: Type of the depth 64: %+v, %v", got, ok)
	}
	if got, ok := Expr(within("1", 63)); !ok || !sameExpr(got, eNum(63, 1)) {
		t.Errorf("P5.1: Expr of the depth 64: %+v, %v", got, ok)
	}
	wantNoType(t, within("int", 64))
	wantNoExpr(t, within("1", 64))
	wantNoExpr(t, "("+within("1", 62)+" : "+within("int", 63)+")")
	wantNoType(t, strings.Repeat("(", 1<<16))
	wantNoExpr(t, strings.Repeat("(", 1<<16))
}

func TestTwice(t *testing.T) {
	wantParse(t, "type t = {a: int, b: ?, a: bool};", []api.Decl{dType(5, "t", rec("a b", tInt, tDyn))}, []api.Diag{twice(24, "a")})
	wantParse(t, "type t = {a: int, a: bool, a: text};", []api.Decl{dType(5, "t", rec("a", tInt))},
		[]api.Diag{twice(18, "a"), twice(27, "a")})
	wantParse(t, "let v = {b = 1, a = 2, b = 3, a = 4};", []api.Decl{dLet(4, "v", eRec(8, "b a", eNum(13, 1), eNum(20, 2)))},
		[]api.Diag{twice(23, "b"), twice(30, "a")})
	// One within another one is another record.
	wantParse(t, "type t = {a: {a: int}};", []api.Decl{dType(5, "t", rec("a", rec("a", tInt)))}, nil)
	wantParse(t, "let v = {a = {a = 1}};", []api.Decl{dLet(4, "v", eRec(8, "a", eRec(13, "a", eNum(18, 1))))}, nil)
	wantNoType(t, "{a: int, a: int}")
	wantNoExpr(t, "{a = 1, a = 1}")
	wantNoExpr(t, "(x : {a: int, a: int})")
}

// What belongs to a field that is left out is parsed, and told of.
func TestWithinTwice(t *testing.T) {
	wantParse(t, "type t = {a: int, a: {b: int, b: int}};", []api.Decl{dType(5, "t", rec("a", tInt))},
		[]api.Diag{twice(18, "a"), twice(30, "b")})
	wantParse(t, "let v = {a = 1, a = {b = 1, b = 2}};", []api.Decl{dLet(4, "v", eRec(8, "a", eNum(13, 1)))},
		[]api.Diag{twice(16, "a"), twice(28, "b")})
	wantParse(t, "type t = {a: int, a: )};use m;", []api.Decl{dUse(28, "m")}, []api.Diag{twice(18, "a"), syntax(21, ")")})
	wantParse(t, "let v = {a = 1, a = };use m;", []api.Decl{dUse(26, "m")}, []api.Diag{twice(16, "a"), syntax(20, "}")})
	deep := strings.Repeat("(", api.MaxDepth-1) + "1" + strings.Repeat(")", api.MaxDepth-1)
	wantParse(t, "let v = {a = 1, a = "+deep+"};", nil,
		[]api.Diag{twice(16, "a"), tooDeep(20 + api.MaxDepth - 1)})
}

func TestOrderOfWhatIsTold(t *testing.T) {
	wantParse(t, "let = 1; let v = 1234567890123456789; let w = @x; type t = {a: int, a: int};",
		[]api.Decl{dLet(13, "v", eNum(17, 0)), dLet(42, "w", eName(47, "x")), dType(55, "t", rec("a", tInt))},
		[]api.Diag{tooGreat(17), noToken(46), syntax(4, "="), twice(68, "a")})
	wantParse(t, "x; \"open", nil, []api.Diag{noToken(3), syntax(0, "x")})
}

func TestBytesThatAreNoToken(t *testing.T) {
	wantParse(t, "\x00let\xff x = 1 -;", []api.Decl{dLet(6, "x", eNum(10, 1))}, []api.Diag{noToken(0), noToken(4), noToken(12)})
	wantParse(t, "@", nil, []api.Diag{noToken(0)})
	for _, src := range []string{"int@", "@int", "int \"", "\xff", "A", "i\x80nt"} {
		wantNoType(t, src)
	}
	for _, src := range []string{"1@", "@1", "1 \"", "\xff", "A", "1234567890123456789", "f(1234567890123456789)"} {
		wantNoExpr(t, src)
	}
}

func TestNotJustOne(t *testing.T) {
	for _, src := range []string{
		"int int", "int;", "int,", "int)", "(int", "()", "{", "}", "{,}", "{a}", "{a:}", "{a: int,}", "{, a: int}", "{a: int b: int}",
		"{a = int}", "{int: a}", "{1: int}", "int ->", "-> int", "int |", "| int", "int || int", "a -> -> b", "?int", "1", `"int"`, "true",
		"type t = int;", "let", "int = int", "a.b", "(int))", "((int)", "fun (x : int) x", ": int", "int -> {", "int | (",
	} {
		wantNoType(t, src)
	}
	for _, src := range []string{
		"1 2", "1;", "1,", "1)", "(1", "()", "{", "}", "{,}", "{a}", "{a=}", "{a = 1,}", "{, a = 1}", "{a = 1 b = 2}", "{a: 1}", "{if = 1}",
		"f()", "f(1", "f(1, 2)", "f(1 : int)", "a.", "a..b", ".a", "a.1", "a.if", "a.(b)", "fun", "fun x", "fun () x", "fun (x) x",
		"fun (x : int)", "fun (x : 1) x", "fun (x : int) = x", "fun (1 : int) x", "let x = 1", "let x in 1", "let x : int = 1 in x",
		"let x = 1 in", "let let = 1 in 2", "let x = 1; x", "if a", "if a then b", "if a then b else", "if then b else c", "if a b else c",
		"(1 :)", "(: int)", "(1 : int : int)", "1 : int", "int", "?", "a -> b", "a | b", "let x = 1;", "x x", "1 fun (x : int) x", "use m;",
	} {
		wantNoExpr(t, src)
	}
}

func TestWrongDeclarations(t *testing.T) {
	for _, c := range []struct {
		src  string
		told []api.Diag
	}{
		{";", []api.Diag{syntax(0, ";")}},
		{";;", []api.Diag{syntax(0, ";"), syntax(1, ";")}},
		{"x", []api.Diag{syntax(0, "x")}},
		{"x = 1 ; y ; 2", []api.Diag{syntax(0, "x"), syntax(8, "y"), syntax(12, "2")}},
		{"\"let\" x = 1;", []api.Diag{syntax(0, "let")}},
		{"in x;", []api.Diag{syntax(0, "in")}},
		{"use", []api.Diag{syntax(3, "")}},
		{"use ;", []api.Diag{syntax(4, ";")}},
		{"use use;", []api.Diag{syntax(4, "use")}},
		{"use m, n;", []api.Diag{syntax(5, ",")}},
		{"use \"m\";", []api.Diag{syntax(4, "m")}},
		{"use m", []api.Diag{syntax(5, "")}},
		{"use m # ;", []api.Diag{syntax(9, "")}},
		{"use m \";\"", []api.Diag{syntax(6, ";")}},
		{"use m \";\" x ; ;", []api.Diag{syntax(6, ";"), syntax(14, ";")}},
		{"type t;", []api.Diag{syntax(6, ";")}},
		{"type t = ;", []api.Diag{syntax(9, ";")}},
		{"type int = int;", []api.Diag{syntax(5, "int")}},
		{"type t : int;", []api.Diag{syntax(7, ":")}},
		{"type t = int bool;", []api.Diag{syntax(13, "bool")}},
		{"type t = int", []api.Diag{syntax(12, "")}},
		{"type t = 12;", []api.Diag{syntax(9, "12")}},
		{"let x;", []api.Diag{syntax(5, ";")}},
		{"let x : = 1;", []api.Diag{syntax(8, "=")}},
		{"let x : int;", []api.Diag{syntax(11, ";")}},
		{"let x = ;", []api.Diag{syntax(8, ";")}},
		{"let true = 1;", []api.Diag{syntax(4, "true")}},
		{"let x = 1 in x;", []api.Diag{syntax(10, "in")}},
		{"let x = 1 let y = 2;", []api.Diag{syntax(10, "let")}},
		{"let x = (1;", []api.Diag{syntax(10, ";")}},
		{"let x = 1);", []api.Diag{syntax(9, ")")}},
		{"let x = if a; then b; else c;", []api.Diag{syntax(12, ";"), syntax(14, "then"), syntax(22, "else")}},
	} {
		wantParse(t, c.src, nil, c.told)
	}
}

// full has every way of the grammar, one token an item; only its last token makes it a declaration.
var full = []string{
	"let", "v", ":", "{", "a", ":", "int", ",", "b", ":", "(", "bool", ")", "->", "text", "|", "?", "|", "u", "}", "=",
	"fun", "(", "x", ":", "{", "}", ")", "let", "y", "=", "{", "c", "=", "1", ",", "d", "=", `"s"`, "}", "(", "true", ")", ".", "e", "in",
	"if", "(", "y", ":", "w", ")", "then", "(", "{", "}", ")", "else", "false", ";",
}

func TestFull(t *testing.T) {
	l, told := Parse(strings.Join(full, " "))
	if len(l) != 1 || len(told) != 0 {
		t.Fatalf("P5.1: %+v, %+v", l, told)
	}
	for _, kind := range []string{"use m ;", "type t = int ;"} {
		if l, told := Parse(kind); len(l) != 1 || len(told) != 0 {
			t.Fatalf("P5.1: %q: %+v, %+v", kind, l, told)
		}
	}
}

func TestTheEndInTheMiddle(t *testing.T) {
	for _, toks := range [][]string{full, {"use", "m", ";"}, {"type", "t", "=", "a", "->", "b", ";"}} {
		for n := 1; n < len(toks); n++ {
			src := strings.Join(toks[:n], " ")
			wantParse(t, src, nil, []api.Diag{syntax(len(src), "")})
			wantParse(t, "use m;"+src, []api.Decl{dUse(4, "m")}, []api.Diag{syntax(len(src)+6, "")})
		}
	}
}

// A token that is wanted nowhere within a declaration, in place of each token, and ahead of each.
func TestAnUnwantedTokenAtEachPlace(t *testing.T) {
	for _, toks := range [][]string{full, {"use", "m", ";"}, {"type", "t", "=", "a", "->", "b", ";"}} {
		for n := 1; n < len(toks); n++ {
			ahead := "use a; " + strings.Join(toks[:n], " ") + " "
			for _, behind := range [][]string{toks[n:], toks[n+1:]} {
				if !slices.Contains(behind, ";") {
					behind = []string{";"}
				}
				src := ahead + "use " + strings.Join(behind, " ")
				want := []api.Decl{dUse(4, "a"), dUse(len(src)+4, "b")}
				wantParse(t, src+"use b;", want, []api.Diag{syntax(len(ahead), "use")})
			}
		}
	}
}

// P5.2: pieces with what they are by themselves; put in a row each is the same, but further on.
func TestWhatIsWrongChangesNoOther(t *testing.T) {
	pieces := []string{
		"use m;", "let x = {a = f(1).b};", "type t = {b: int, a: t} | ?;", " # a remark; \n", "let y : {a: int, a: int} = {b = 1, b = 2};",
		";", "let 1;", "use a b c;", "let v = ((((;", "type t = {a: int, a: };", "= let x = 1;", "let v = " + strings.Repeat("(", 70) + ";",
	}
	for _, a := range pieces {
		for _, b := range pieces {
			for _, c := range pieces {
				wantInRow(t, a, b, c)
			}
		}
	}
}

func wantInRow(t *testing.T, pieces ...string) {
	t.Helper()
	var decls []api.Decl
	var told []api.Diag
	src := ""
	for _, piece := range pieces {
		l, d := Parse(piece)
		for i := range l {
			decls = append(decls, movedDecl(l[i], len(src)))
		}
		for i := range d {
			d[i].At += len(src)
		}
		told = append(told, d...)
		src += piece
	}
	gotDecls, gotTold := Parse(src)
	if !slices.EqualFunc(gotDecls, decls, sameDecl) || !slices.Equal(gotTold, told) {
		t.Errorf("P5.2: Parse(%q):\n%+v, told %+v, want\n%+v, told %+v", src, gotDecls, gotTold, decls, told)
	}
}

// The languages of types and expressions, made from the grammar itself: all sentences of up to so many tokens.

type grammar map[string][]string

var typeGrammar = grammar{
	"type":   {"arrow", "arrow | type"},
	"arrow":  {"plain", "plain -> arrow"},
	"plain":  {"int", "?", "a", "{ }", "{ fields }", "( type )"},
	"fields": {"a : type", "a : type , fields"},
}

var exprGrammar = grammar{
	"expr":  {"let a = expr in expr", "if expr then expr else expr", "call"},
	"call":  {"basic", "call ( expr )", "call . a"},
	"basic": {"1", "a", "{ }", "{ items }", "( expr )", "( expr : int )"},
	"items": {"a = expr", "a = expr , items"},
}

// sentences are those of a rule that have at most so many tokens.
func (g grammar) sentences(rule string, most int) map[string]bool {
	known := map[string]map[string]bool{}
	for name := range g {
		known[name] = map[string]bool{}
	}
	for grown := true; grown; {
		grown = false
		for name, ways := range g {
			for _, way := range ways {
				for _, s := range spread(strings.Fields(way), known, most) {
					grown = grown || !known[name][s]
					known[name][s] = true
				}
			}
		}
	}
	return known[rule]
}

func spread(way []string, known map[string]map[string]bool, most int) []string {
	if most < len(way) {
		return nil
	}
	if len(way) == 0 {
		return []string{""}
	}
	var l []string
	heads := map[string]bool{way[0] + " ": true}
	if known[way[0]] != nil {
		heads = known[way[0]]
	}
	for head := range heads {
		for _, tail := range spread(way[1:], known, most-strings.Count(head, " ")) {
			l = append(l, head+tail)
		}
	}
	return l
}

func TestAllShortSources(t *testing.T) {
	types := typeGrammar.sentences("type", 5)
	for src := range rows(strings.Fields("int ? a { } ( ) : , -> | ="), 5) {
		// The one way in which a sentence is none: a name that is there twice needs more tokens.
		if got, ok := Type(src); ok != types[src] || !ok && !sameT(got, api.T{}) {
			t.Fatalf("P5.1: Type(%q) = %+v, %v", src, got, ok)
		}
	}
	exprs := exprGrammar.sentences("expr", 6)
	for src := range rows(strings.Fields("let = in 1 a { } ( ) ."), 6) {
		if got, ok := Expr(src); ok != exprs[src] || !ok && !sameExpr(got, api.Expr{}) {
			t.Fatalf("P5.1: Expr(%q) = %+v, %v", src, got, ok)
		}
	}
	for src := range exprs {
		if _, ok := Expr(src); !ok {
			t.Errorf("P5.1: Expr(%q) isn't told", src)
		}
	}
}

// rows tells all rows of up to so many of the tokens.
func rows(toks []string, most int) func(yield func(string) bool) {
	var from func(head string, left int, yield func(string) bool) bool
	from = func(head string, left int, yield func(string) bool) bool {
		if !yield(head) {
			return false
		}
		for _, tok := range toks {
			if left > 0 && !from(head+tok+" ", left-1, yield) {
				return false
			}
		}
		return true
	}
	return func(yield func(string) bool) { from("", most, yield) }
}

func FuzzParse(f *testing.F) {
	f.Add(strings.Join(full, " "))
	f.Add("let x = \xff(;;type t = {a: int, a: int};")
	f.Fuzz(func(t *testing.T, src string) {
		l, told := Parse(src)
		again, toldAgain := Parse(src)
		if !slices.EqualFunc(l, again, sameDecl) || !slices.Equal(told, toldAgain) {
			t.Errorf("R6: Parse(%q) isn't the same again", src)
		}
		Type(src)
		Expr(src)
	})
}

// lists are the items of all lists of an answer, with the room behind them.
type lists struct {
	t     *testing.T
	items map[any]string
}

func note[V any](l lists, list []V, where string) {
	for i := range list[:cap(list)] {
		item := &list[:cap(list)][i]
		if other, there := l.items[item]; there {
			l.t.Errorf("R4: %s and %s share memory", other, where)
		}
		l.items[item] = where
	}
}

func (l lists) noteTypes(ts []api.T, where string) {
	note(l, ts, where)
	for i, t := range ts {
		inner := fmt.Sprintf("%s.%d", where, i)
		note(l, t.Names, inner+".Names")
		l.noteTypes(t.L, inner)
	}
}

func (l lists) noteExprs(es []api.Expr, where string) {
	note(l, es, where)
	for i, e := range es {
		inner := fmt.Sprintf("%s.%d", where, i)
		note(l, e.Names, inner+".Names")
		l.noteTypes(e.Ts, inner+".Ts")
		l.noteExprs(e.L, inner)
	}
}

func TestAnswersShareNoMemory(t *testing.T) {
	src := strings.Join(full, " ") + "type t = {b: int | t, a: t -> {}}; let w = {a = {a = 1, a = 2}, b = f(1).c}; x;"
	l := lists{t, map[any]string{}}
	for i := range 2 {
		decls, told := Parse(src)
		where := fmt.Sprintf("answer %d", i)
		note(l, decls, where)
		note(l, told, where+" told")
		for j, d := range decls {
			l.noteTypes(d.Ts, fmt.Sprintf("%s, %d, Ts", where, j))
			l.noteExprs(d.Es, fmt.Sprintf("%s, %d, Es", where, j))
		}
		one, _ := Type("{b: int | t, a: t -> {}}")
		l.noteTypes([]api.T{one}, where+" of Type")
		e, _ := Expr("{a = {a = 1}, b = f(1).c}")
		l.noteExprs([]api.Expr{e}, where+" of Expr")
	}
}
