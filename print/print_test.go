package print

import (
	"math"
	"math/rand"
	"slices"
	"strings"
	"testing"

	"cupel/api"
	"cupel/parse"
)

var (
	tInt  = api.T{Kind: api.KInt}
	tBool = api.T{Kind: api.KBool}
	tText = api.T{Kind: api.KText}
	tDyn  = api.T{Kind: api.KDyn}
)

func ref(name string) api.T      { return api.T{Kind: api.KRef, Name: name} }
func fun(from, to api.T) api.T   { return api.T{Kind: api.KFun, L: []api.T{from, to}} }
func union(parts ...api.T) api.T { return api.T{Kind: api.KUnion, L: parts} }

func rec(names string, l ...api.T) api.T {
	return api.T{Kind: api.KRec, Names: strings.Fields(names), L: l}
}

func eNum(n int64) api.Expr        { return api.Expr{Kind: api.ENum, N: n} }
func eText(text string) api.Expr   { return api.Expr{Kind: api.EText, Name: text} }
func eBool(n int64) api.Expr       { return api.Expr{Kind: api.EBool, N: n} }
func eName(name string) api.Expr   { return api.Expr{Kind: api.EName, Name: name} }
func eIf(l ...api.Expr) api.Expr   { return api.Expr{Kind: api.EIf, L: l} }
func eCall(l ...api.Expr) api.Expr { return api.Expr{Kind: api.ECall, L: l} }

func eRec(names string, l ...api.Expr) api.Expr {
	return api.Expr{Kind: api.ERec, Names: strings.Fields(names), L: l}
}

func eField(name string, of api.Expr) api.Expr {
	return api.Expr{Kind: api.EField, Name: name, L: []api.Expr{of}}
}

func eFun(name string, t api.T, body api.Expr) api.Expr {
	return api.Expr{Kind: api.EFun, Name: name, L: []api.Expr{body}, Ts: []api.T{t}}
}

func eLet(name string, l ...api.Expr) api.Expr {
	return api.Expr{Kind: api.ELet, Name: name, L: l}
}

func eAs(e api.Expr, t api.T) api.Expr {
	return api.Expr{Kind: api.EAs, L: []api.Expr{e}, Ts: []api.T{t}}
}

func dUse(name string) api.Decl { return api.Decl{Kind: api.DUse, Name: name} }

func dType(name string, t api.T) api.Decl {
	return api.Decl{Kind: api.DType, Name: name, Ts: []api.T{t}}
}

func dLet(name string, e api.Expr, ts ...api.T) api.Decl {
	return api.Decl{Kind: api.DLet, Name: name, Ts: ts, Es: []api.Expr{e}}
}

// The same but for places. A list without items may be nil or empty.

func sameT(a, b api.T) bool {
	return a.Kind == b.Kind && a.Name == b.Name && slices.Equal(a.Names, b.Names) && slices.EqualFunc(a.L, b.L, sameT)
}

func sameExpr(a, b api.Expr) bool {
	return a.Kind == b.Kind && a.Name == b.Name && a.N == b.N && slices.Equal(a.Names, b.Names) &&
		slices.EqualFunc(a.L, b.L, sameExpr) && slices.EqualFunc(a.Ts, b.Ts, sameT)
}

func sameDecl(a, b api.Decl) bool {
	return a.Kind == b.Kind && a.Name == b.Name && slices.EqualFunc(a.Ts, b.Ts, sameT) && slices.EqualFunc(a.Es, b.Es, sameExpr)
}

func sameDecls(a, b []api.Decl) bool { return slices.EqualFunc(a, b, sameDecl) }

// wantType asks for a type's text by itself, and in each place of a declaration where it stands without marks.
func wantType(t *testing.T, typ api.T, want string) {
	t.Helper()
	if got := Type(typ); got != want {
		t.Errorf("P6.1: Type = %q, want %q", got, want)
	}
	for _, c := range []struct{ got, want string }{
		{Type(rec("a", typ)), "{a: " + want + "}"},
		{Expr(eFun("x", typ, eNum(1))), "fun (x : " + want + ") 1"},
		{Expr(eAs(eNum(1), typ)), "(1 : " + want + ")"},
		{Decl(dType("t", typ)), "type t = " + want + ";\n"},
		{Decl(dLet("v", eNum(1), typ)), "let v : " + want + " = 1;\n"},
	} {
		if c.got != c.want {
			t.Errorf("P6.1: %q, want %q", c.got, c.want)
		}
	}
}

// wantExpr asks for an expression's text by itself, and in each place where it stands without marks.
func wantExpr(t *testing.T, x api.Expr, want string) {
	t.Helper()
	if got := Expr(x); got != want {
		t.Errorf("P6.1: Expr = %q, want %q", got, want)
	}
	for _, c := range []struct{ got, want string }{
		{Expr(eRec("a", x)), "{a = " + want + "}"},
		{Expr(eCall(eName("f"), x)), "f(" + want + ")"},
		{Expr(eFun("x", tInt, x)), "fun (x : int) " + want},
		{Expr(eLet("x", x, eNum(1))), "let x = " + want + " in 1"},
		{Expr(eLet("x", eNum(1), x)), "let x = 1 in " + want},
		{Expr(eIf(x, eNum(1), eNum(2))), "if " + want + " then 1 else 2"},
		{Expr(eIf(eNum(1), x, eNum(2))), "if 1 then " + want + " else 2"},
		{Expr(eIf(eNum(1), eNum(2), x)), "if 1 then 2 else " + want},
		{Expr(eAs(x, tInt)), "(" + want + " : int)"},
		{Decl(dLet("v", x)), "let v = " + want + ";\n"},
		{Decl(dLet("v", x, tInt)), "let v : int = " + want + ";\n"},
	} {
		if c.got != c.want {
			t.Errorf("P6.1: %q, want %q", c.got, c.want)
		}
	}
}

// P6.1: the chapter's example.
func TestExample(t *testing.T) {
	typ, ok := parse.Type("int -> (int | bool)")
	if got := Type(typ); !ok || got != "int -> (int | bool)" {
		t.Errorf("P6.1: Type = %q", got)
	}
}

func TestPlainTypes(t *testing.T) {
	wantType(t, tInt, "int")
	wantType(t, tBool, "bool")
	wantType(t, tText, "text")
	wantType(t, tDyn, "?")
	wantType(t, ref("t"), "t")
	wantType(t, ref("_a1"), "_a1")
	// A reference as it is made of one that has a home.
	wantType(t, ref("f.t"), "f.t")
}

func TestRecordTypes(t *testing.T) {
	wantType(t, rec(""), "{}")
	wantType(t, rec("a", tInt), "{a: int}")
	wantType(t, rec("a b c", tInt, tDyn, ref("t")), "{a: int, b: ?, c: t}")
	wantType(t, rec("_ a a1 aa b", rec(""), rec("a", tInt), rec("a b", tText, rec("c", tBool)), tDyn, rec("")),
		"{_: {}, a: {a: int}, a1: {a: text, b: {c: bool}}, aa: ?, b: {}}")
	wantType(t, rec("a b", union(tInt, tBool), fun(tInt, tBool)), "{a: int | bool, b: int -> bool}")
}

func TestFunctionTypes(t *testing.T) {
	wantType(t, fun(tInt, tBool), "int -> bool")
	wantType(t, fun(rec(""), rec("a", tInt)), "{} -> {a: int}")
	wantType(t, fun(ref("a"), fun(ref("b"), ref("c"))), "a -> b -> c")
	wantType(t, fun(fun(ref("a"), ref("b")), ref("c")), "(a -> b) -> c")
	wantType(t, fun(fun(ref("a"), ref("b")), fun(ref("c"), ref("d"))), "(a -> b) -> c -> d")
	wantType(t, fun(fun(fun(tInt, tInt), tInt), tInt), "((int -> int) -> int) -> int")
	wantType(t, fun(fun(tInt, fun(tInt, tInt)), tInt), "(int -> int -> int) -> int")
	wantType(t, fun(tInt, fun(fun(tInt, tInt), tInt)), "int -> (int -> int) -> int")
	wantType(t, fun(union(tInt, tBool), tText), "(int | bool) -> text")
	wantType(t, fun(tText, union(tInt, tBool)), "text -> (int | bool)")
	wantType(t, fun(union(tInt, tBool), union(tText, tDyn)), "(int | bool) -> (text | ?)")
	wantType(t, fun(tInt, fun(tInt, union(tInt, tBool))), "int -> int -> (int | bool)")
	wantType(t, fun(rec("a", union(tInt, tBool)), rec("a", fun(tInt, tInt))), "{a: int | bool} -> {a: int -> int}")
}

func TestUnions(t *testing.T) {
	wantType(t, union(tInt, tBool), "int | bool")
	wantType(t, union(tText, tInt, tBool, tInt, ref("t"), tDyn), "text | int | bool | int | t | ?")
	wantType(t, union(rec(""), rec("a", tInt)), "{} | {a: int}")
	wantType(t, union(fun(tInt, tBool), tText), "int -> bool | text")
	wantType(t, union(tText, fun(tInt, tBool)), "text | int -> bool")
	wantType(t, union(fun(tInt, tBool), fun(fun(tInt, tInt), tBool)), "int -> bool | (int -> int) -> bool")
	wantType(t, union(union(tInt, tBool), tText), "(int | bool) | text")
	wantType(t, union(tText, union(tInt, tBool)), "text | (int | bool)")
	wantType(t, union(tText, union(union(tInt, tDyn), tBool), tInt), "text | ((int | ?) | bool) | int")
	wantType(t, union(fun(tInt, union(tInt, tBool)), tInt), "int -> (int | bool) | int")
	wantType(t, union(rec("a", union(tInt, tBool)), tInt), "{a: int | bool} | int")
}

// The union of none has a text of its own; it is a union where it stands in another type.
func TestUnionOfNone(t *testing.T) {
	wantType(t, union(), "never")
	wantType(t, fun(union(), tInt), "(never) -> int")
	wantType(t, fun(tInt, union()), "int -> (never)")
	wantType(t, union(tInt, union()), "int | (never)")
}

func TestBasicExpressions(t *testing.T) {
	wantExpr(t, eNum(0), "0")
	wantExpr(t, eNum(7), "7")
	wantExpr(t, eNum(999999999999999999), "999999999999999999")
	wantExpr(t, eText(""), `""`)
	wantExpr(t, eText("a; (b) # \\n 'c'"), `"a; (b) # \n 'c'"`)
	wantExpr(t, eText("\x00\xff\r\té"), "\"\x00\xff\r\té\"")
	wantExpr(t, eBool(1), "true")
	wantExpr(t, eBool(0), "false")
	wantExpr(t, eName("x"), "x")
	wantExpr(t, eName("_1"), "_1")
	wantExpr(t, eRec(""), "{}")
	wantExpr(t, eRec("a", eNum(1)), "{a = 1}")
	// As they stand, in no other order.
	wantExpr(t, eRec("b a c", eNum(1), eName("x"), eRec("")), "{b = 1, a = x, c = {}}")
	wantExpr(t, eAs(eName("x"), tInt), "(x : int)")
	wantExpr(t, eAs(eAs(eName("x"), tInt), union(tDyn, tInt)), "((x : int) : ? | int)")
}

func TestGreaterExpressions(t *testing.T) {
	wantExpr(t, eFun("x", tInt, eName("y")), "fun (x : int) y")
	wantExpr(t, eFun("x", fun(tInt, tInt), eFun("y", union(tInt, tDyn), eName("x"))), "fun (x : int -> int) fun (y : int | ?) x")
	wantExpr(t, eLet("x", eNum(1), eName("y")), "let x = 1 in y")
	wantExpr(t, eLet("x", eLet("y", eNum(1), eNum(2)), eLet("z", eNum(3), eNum(4))), "let x = let y = 1 in 2 in let z = 3 in 4")
	wantExpr(t, eIf(eName("a"), eName("b"), eName("c")), "if a then b else c")
	wantExpr(t, eIf(eIf(eNum(1), eNum(2), eNum(3)), eIf(eNum(4), eNum(5), eNum(6)), eIf(eNum(7), eNum(8), eNum(9))),
		"if if 1 then 2 else 3 then if 4 then 5 else 6 else if 7 then 8 else 9")
	wantExpr(t, eRec("a b c", eFun("x", tInt, eNum(1)), eLet("x", eNum(1), eNum(2)), eIf(eNum(1), eNum(2), eNum(3))),
		"{a = fun (x : int) 1, b = let x = 1 in 2, c = if 1 then 2 else 3}")
	wantExpr(t, eAs(eFun("x", tInt, eNum(1)), fun(tInt, tInt)), "(fun (x : int) 1 : int -> int)")
}

// Each kind of expression has a field taken, is called, and is what a call is made with.
func TestFieldsAndCalls(t *testing.T) {
	for _, c := range []struct {
		x     api.Expr
		text  string
		marks bool
	}{
		{eNum(1), "1", false},
		{eText("s"), `"s"`, false},
		{eBool(1), "true", false},
		{eBool(0), "false", false},
		{eName("x"), "x", false},
		{eRec(""), "{}", false},
		{eRec("a", eFun("x", tInt, eNum(1))), "{a = fun (x : int) 1}", false},
		{eField("b", eName("x")), "x.b", false},
		{eCall(eName("f"), eNum(1)), "f(1)", false},
		{eCall(eName("f"), eIf(eNum(1), eNum(2), eNum(3))), "f(if 1 then 2 else 3)", false},
		{eAs(eName("x"), tInt), "(x : int)", false},
		{eAs(eLet("x", eNum(1), eNum(2)), tInt), "(let x = 1 in 2 : int)", false},
		{eFun("x", tInt, eName("x")), "fun (x : int) x", true},
		{eLet("x", eNum(1), eName("x")), "let x = 1 in x", true},
		{eIf(eName("a"), eName("b"), eName("c")), "if a then b else c", true},
	} {
		tight := c.text
		if c.marks {
			tight = "(" + c.text + ")"
		}
		wantExpr(t, c.x, c.text)
		wantExpr(t, eField("a", c.x), tight+".a")
		wantExpr(t, eCall(c.x, eNum(1)), tight+"(1)")
		wantExpr(t, eCall(c.x, c.x), tight+"("+c.text+")")
		wantExpr(t, eField("b", eField("a", c.x)), tight+".a.b")
		wantExpr(t, eCall(eField("a", eCall(c.x, eNum(1))), c.x), tight+"(1).a("+c.text+")")
		// In what has marks by itself only what has none.
		wantExpr(t, eCall(eFun("x", tInt, eField("a", c.x)), c.x), "(fun (x : int) "+tight+".a)("+c.text+")")
	}
}

func TestDecls(t *testing.T) {
	for _, c := range []struct {
		d    api.Decl
		want string
	}{
		{dUse("f"), "use f;\n"},
		{dType("t", tInt), "type t = int;\n"},
		{dType("t", union(fun(tInt, ref("t")), rec(""))), "type t = int -> t | {};\n"},
		{dLet("x", eNum(1)), "let x = 1;\n"},
		{dLet("x", eNum(1), tDyn), "let x : ? = 1;\n"},
		{dLet("x", eFun("y", tInt, eName("y")), fun(tInt, tInt)), "let x : int -> int = fun (y : int) y;\n"},
		{dLet("x", eLet("y", eNum(1), eNum(2))), "let x = let y = 1 in 2;\n"},
	} {
		if got := Decl(c.d); got != c.want {
			t.Errorf("P6.1: Decl = %q, want %q", got, c.want)
		}
		if got := File([]api.Decl{c.d}); got != c.want {
			t.Errorf("P6.1: File of one = %q, want %q", got, c.want)
		}
	}
}

func TestFile(t *testing.T) {
	if got := File(nil); got != "" {
		t.Errorf("P6.1: File of none = %q", got)
	}
	if got := File([]api.Decl{}); got != "" {
		t.Errorf("P6.1: File of none = %q", got)
	}
	// In no other order, each as often as it is there.
	l := []api.Decl{dLet("x", eNum(1)), dUse("f"), dType("t", tInt), dUse("f"), dLet("a", eNum(2), tInt)}
	want := "let x = 1;\nuse f;\ntype t = int;\nuse f;\nlet a : int = 2;\n"
	if got := File(l); got != want {
		t.Errorf("P6.1: File = %q, want %q", got, want)
	}
}

// Places play no part in a text.
func TestPlaces(t *testing.T) {
	far, _ := parse.Parse(" # a remark\n let  x\t: int =\n(f ( 007 ) : {b:?,a:int});")
	near := []api.Decl{dLet("x", eAs(eCall(eName("f"), eNum(7)), rec("a b", tInt, tDyn)), tInt)}
	want := "let x : int = (f(7) : {a: int, b: ?});\n"
	if File(far) != want || File(near) != want {
		t.Errorf("P6.1: File = %q, %q, want %q", File(far), File(near), want)
	}
}

// wantSame parses the text of a source's declarations: they are the same again, nothing is told, and their text is the same.
func wantSame(t *testing.T, src string) {
	t.Helper()
	l, _ := parse.Parse(src)
	text := File(l)
	again, told := parse.Parse(text)
	if len(told) > 0 || !sameDecls(l, again) {
		t.Errorf("P6.2: %.300q is printed %.300q: %d declarations of %d, told %+v", src, text, len(again), len(l), told)
	}
	if s := File(again); s != text {
		t.Errorf("P6.2: %.300q is printed %.300q ahead of %.300q", src, text, s)
	}
	parted := ""
	for _, d := range l {
		parted += Decl(d)
	}
	if parted != text {
		t.Errorf("P6.1: File of %.300q isn't its declarations' texts: %.300q, %.300q", src, text, parted)
	}
}

func TestParsedAgain(t *testing.T) {
	for _, src := range []string{
		"", " # a remark\n", ";", "x", "let = 1;",
		"use a; use a; use b_1;",
		"type t = {}; type t = {b: int, a: {}}; type u = (((t)));",
		"type t = int | (bool | (text | ?)) | (t);",
		"type t = (int -> int) -> (int -> (int)) -> (int | bool);",
		"type t = (int | bool) -> int | (int -> int) | {a: (int | int)};",
		"let x = 000; let y = 999999999999999999; let z = 1234567890123456789;",
		"let x = \"\"; let y = \"let # ( ;\\\"; let z = \"\x00\xff\r\té\";",
		"let x : (int | bool) = ((true)); let y : ((t)) = ((false));",
		"let x = {a = 1, b = {c = fun (x : {}) x, a = {}}, _ = let x = 1 in x};",
		"let x = (fun (x : int) x)(1); let y = fun (x : int) x(1); let z = fun (x : int) (x(1));",
		"let x = (let y = 1 in y).a; let y = let y = 1 in y.a; let z = (let y = (1) in (y.a));",
		"let x = (if a then b else c)(1); let y = if a then b else c(1); let z = if (a) then (b) else (c(1));",
		"let x = (if a then b else c).d; let y = if a then b else c.d;",
		"let x = ((f(1))(2)).a.b(c.d)((3)); let y = f((g(1)).a);",
		"let x = (x : int)(1); let y = ((x : int | ?).a : {a: int} -> int).b; let z = ((x) : (int));",
		"let x = (fun (x : int) x : int -> int); let y = fun (x : int) (x : int);",
		"let x = 1.a; let y = \"s\".a(1); let z = {a = 1}.a; let w = {}(1); let v = true.a; let u = false(false);",
		// What is wrong is left out, and all else is the same.
		"let x = 1; let = 2; let y = (3; let z = 4", "use a b; use c;", "type t = {a: int, a: bool, b: {a: int, a: text}};",
		"let x = {a = 1, b = 2, a = 3, b = {a = 1, a = 2}};", "let x = @1; le\xfft y = 2; let z = \"open\n 3;",
		"let x = " + strings.Repeat("(", 70) + "1" + strings.Repeat(")", 70) + "; let y = 2;",
	} {
		wantSame(t, src)
	}
}

// P6.2: of types and expressions that stand by themselves.
func TestTypeAndExprParsedAgain(t *testing.T) {
	for _, src := range []string{"int", "?", "{}", "t", "a | (b | c)", "a -> b -> c", "(a -> b) -> (c | d) | e", "{b: {}, a: int | bool}"} {
		typ, _ := parse.Type(src)
		if again, ok := parse.Type(Type(typ)); !ok || !sameT(typ, again) {
			t.Errorf("P6.2: %q is printed %q", src, Type(typ))
		}
	}
	for _, src := range []string{"1", "\"\"", "{}", "(if a then b else c)(d).e", "fun (x : int | ?) (x : ?)", "(let a = 1 in b).c"} {
		x, _ := parse.Expr(src)
		if again, ok := parse.Expr(Expr(x)); !ok || !sameExpr(x, again) {
			t.Errorf("P6.2: %q is printed %q", src, Expr(x))
		}
	}
}

// Each way in which something stands one deeper, with what stands innermost.
var nestings = []struct{ open, ahead, core, behind, end string }{
	{"type t = ", "(", "int", ")", ";"},
	{"type t = ", "{a: ", "int", "}", ";"},
	{"type t = ", "int -> ", "int | bool", "", ";"},
	{"type t = ", "(", "int -> int", ") -> int", ";"},
	{"type t = ", "(", "int | bool", ") | int", ";"},
	{"type t = ", "int | (", "int | bool", ")", ";"},
	{"type t = ", "(int | bool) -> ", "int", "", ";"},
	{"let v : ", "(", "int | bool", ") -> int", " = 1;"},
	{"let v = ", "(", "1", ")", ";"},
	{"let v = ", "(", "x", " : int)", ";"},
	{"let v = ", "fun (x : int) ", "x", "", ";"},
	{"let v = ", "(fun (x : int) ", "x", ")(1)", ";"},
	{"let v = ", "(fun (x : int) ", "x", ").a", ";"},
	{"let v = ", "let x = ", "1", " in x", ";"},
	{"let v = ", "let x = 1 in ", "x", "", ";"},
	{"let v = ", "(let x = 1 in ", "x", ").a", ";"},
	{"let v = ", "if ", "1", " then 2 else 3", ";"},
	{"let v = ", "if 1 then ", "2", " else 3", ";"},
	{"let v = ", "if 1 then 2 else ", "3", "", ";"},
	{"let v = ", "(if 1 then 2 else ", "3", ")(1)", ";"},
	{"let v = ", "f(", "1", ")", ";"},
	{"let v = ", "{b = 1, a = ", "1", "}", ";"},
	{"let v = fun (x : ", "(", "int -> int", ") -> int", ") x;"},
	{"let v = (1 : ", "(", "int | bool", ") | int", ");"},
}

// Parts as deep as they may be: one more is too deep to be parsed, so that marks may never stand where they need not.
func TestDepth(t *testing.T) {
	for _, n := range nestings {
		source := func(times int) string {
			return n.open + strings.Repeat(n.ahead, times) + n.core + strings.Repeat(n.behind, times) + n.end
		}
		most := 0
		for ; most < api.MaxDepth; most++ {
			if l, _ := parse.Parse(source(most + 1)); len(l) == 0 {
				break
			}
			wantSame(t, source(most+1))
		}
		if most < 20 || most == api.MaxDepth {
			t.Errorf("P6.2: %q may stand %d deep", n.ahead, most)
		}
	}
}

// A type that was put together may nest deeper than a source.
func TestDeepTypes(t *testing.T) {
	const times = 10000
	taken, given, within, field := tInt, tInt, tInt, tInt
	for range times {
		taken, given, within, field = fun(taken, tInt), fun(tInt, given), union(tInt, within), rec("a", field)
	}
	for _, c := range []struct {
		typ  api.T
		want string
	}{
		{taken, strings.Repeat("(", times-1) + "int -> int" + strings.Repeat(") -> int", times-1)},
		{given, strings.Repeat("int -> ", times) + "int"},
		{within, strings.Repeat("int | (", times-1) + "int | int" + strings.Repeat(")", times-1)},
		{field, strings.Repeat("{a: ", times) + "int" + strings.Repeat("}", times)},
	} {
		if Type(c.typ) != c.want {
			t.Errorf("P6.1: the text of a deep type begins with %.40q, want %.40q", Type(c.typ), c.want)
		}
	}
}

// What stands in a row adds no depth, however much it is.
func TestLongRows(t *testing.T) {
	const times = 1 << 17
	for _, src := range []string{
		"let v = f" + strings.Repeat("(1)", times) + ";\n",
		"let v = (if a then b else c)" + strings.Repeat(".a", times) + ";\n",
		"let v = a" + strings.Repeat(".b(1)", times/2) + ";\n",
		"type t = int" + strings.Repeat(" | int", times) + ";\n",
		strings.Repeat("use m;\n", times/4),
	} {
		l, told := parse.Parse(src)
		if text := File(l); len(told) > 0 || text != src {
			t.Errorf("P6.1: %.30q of %d bytes is printed with %d bytes", src, len(src), len(text))
		}
	}
}

// maker puts together types and expressions as parse tells them, so many of each kind.
type maker struct{ *rand.Rand }

func (m maker) name() string { return string(rune('a' + m.Intn(5))) }

// someNames are up to three, each once, in the order of their places in the alphabet.
func (m maker) someNames() []string {
	var l []string
	for _, name := range []string{"_", "a", "b1"} {
		if m.Intn(2) == 0 {
			l = append(l, name)
		}
	}
	return l
}

func (m maker) typ(depth int) api.T {
	if depth == 0 {
		return []api.T{tInt, tBool, tText, tDyn, ref(m.name()), rec("")}[m.Intn(6)]
	}
	switch m.Intn(4) {
	case 0:
		return fun(m.typ(depth-1), m.typ(depth-1))
	case 1:
		t := union(m.typ(depth-1), m.typ(depth-1))
		for m.Intn(3) == 0 {
			t.L = append(t.L, m.typ(depth-1))
		}
		return t
	case 2:
		t := api.T{Kind: api.KRec, Names: m.someNames()}
		for range t.Names {
			t.L = append(t.L, m.typ(depth-1))
		}
		return t
	}
	return m.typ(0)
}

func (m maker) basic() api.Expr {
	return []api.Expr{eNum(m.Int63n(1000)), eText(m.name()), eBool(1), eBool(0), eName(m.name()), eRec("")}[m.Intn(6)]
}

func (m maker) expr(depth int) api.Expr {
	if depth == 0 {
		return m.basic()
	}
	one := func() api.Expr { return m.expr(depth - 1) }
	switch m.Intn(8) {
	case 0:
		return eField(m.name(), one())
	case 1:
		return eCall(one(), one())
	case 2:
		return eFun(m.name(), m.typ(2), one())
	case 3:
		return eLet(m.name(), one(), one())
	case 4:
		return eIf(one(), one(), one())
	case 5:
		return eAs(one(), m.typ(2))
	case 6:
		x := api.Expr{Kind: api.ERec, Names: m.someNames()}
		m.Shuffle(len(x.Names), func(i, j int) { x.Names[i], x.Names[j] = x.Names[j], x.Names[i] })
		for range x.Names {
			x.L = append(x.L, one())
		}
		return x
	}
	return m.basic()
}

func TestMadeTypes(t *testing.T) {
	m := maker{rand.New(rand.NewSource(1))}
	for i := range 20000 {
		typ := m.typ(i % 5)
		text := Type(typ)
		again, ok := parse.Type(text)
		if !ok || !sameT(typ, again) {
			t.Fatalf("P6.2: %+v is printed %q, and parsed %+v, %v", typ, text, again, ok)
		}
		wantNoMarkTooMuch(t, text, func(s string) bool {
			other, ok := parse.Type(s)
			return ok && sameT(typ, other)
		})
	}
}

func TestMadeExpressions(t *testing.T) {
	m := maker{rand.New(rand.NewSource(2))}
	for i := range 20000 {
		x := m.expr(i % 5)
		text := Expr(x)
		again, ok := parse.Expr(text)
		if !ok || !sameExpr(x, again) {
			t.Fatalf("P6.2: %+v is printed %q, and parsed %+v, %v", x, text, again, ok)
		}
		wantNoMarkTooMuch(t, text, func(s string) bool {
			other, ok := parse.Expr(s)
			return ok && sameExpr(x, other)
		})
	}
}

// wantNoMarkTooMuch blanks each pair of marks of a text: without it it is another one.
func wantNoMarkTooMuch(t *testing.T, text string, same func(string) bool) {
	t.Helper()
	var opened []int
	for i := range len(text) {
		switch text[i] {
		case '(':
			opened = append(opened, i)
		case ')':
			from := opened[len(opened)-1]
			opened = opened[:len(opened)-1]
			if less := text[:from] + " " + text[from+1:i] + " " + text[i+1:]; same(less) {
				t.Fatalf("P6.1: %q has marks that %q doesn't need", text, less)
			}
		}
	}
}

func TestMadeFiles(t *testing.T) {
	m := maker{rand.New(rand.NewSource(3))}
	for range 500 {
		var l []api.Decl
		for range m.Intn(8) {
			l = append(l, []api.Decl{
				dUse(m.name()), dType(m.name(), m.typ(3)), dLet(m.name(), m.expr(3)), dLet(m.name(), m.expr(3), m.typ(2)),
			}[m.Intn(4)])
		}
		text := File(l)
		again, told := parse.Parse(text)
		if len(told) > 0 || !sameDecls(l, again) {
			t.Fatalf("P6.2: %+v is printed %q, and parsed %+v, told %+v", l, text, again, told)
		}
	}
}

// P6.2: sources of any rows of tokens, most of them wrong somewhere.
func TestAnyRowsParsedAgain(t *testing.T) {
	toks := strings.Fields(`use type let in if then else fun true false int bool text a b _1 0 42 "s" "" -> = : ; ; ; , . ( ) { } | ? @`)
	m := maker{rand.New(rand.NewSource(4))}
	for range 20000 {
		var row []string
		for range m.Intn(40) {
			row = append(row, toks[m.Intn(len(toks))])
		}
		wantSame(t, strings.Join(row, " "))
	}
}

// P6.2: a source of all forms, and each that one token less, one more, or another one makes of it.
func TestNearlyRightParsedAgain(t *testing.T) {
	full := strings.Fields("use m ; type t = { b : int | ( bool | t ) -> ? , a : ( text -> { } ) -> u } ; let v : ( int ) = " +
		"fun ( x : { } ) let y = { c = 1 , d = \"s\" } ( true ) . e in if ( y : w ) then ( fun ( z : int ) z ) ( { } ) else false ;")
	wantSame(t, strings.Join(full, " "))
	for i := range full {
		wantSame(t, strings.Join(slices.Delete(slices.Clone(full), i, i+1), " "))
		for _, tok := range strings.Fields("let int a 1 ( ) { } -> | , . ;") {
			wantSame(t, strings.Join(slices.Insert(slices.Clone(full), i, tok), " "))
			other := slices.Clone(full)
			other[i] = tok
			wantSame(t, strings.Join(other, " "))
		}
	}
}

func FuzzParsedAgain(f *testing.F) {
	f.Add("use a;type t={b:int|(bool|?),a:(int->int)->(int->t)};let x:t=((fun(y:int)(y)))(if true then 1 else 2).z;")
	f.Add("let v=(let a=\"q\" in a)({b=1,a=(2:int)});let x = \xff(;;")
	f.Fuzz(func(t *testing.T, src string) { wantSame(t, src) })
}

// R1: what parse never tells makes no panic.
func TestWhatParseNeverTells(t *testing.T) {
	for kind := -1; kind <= api.EAs+1; kind++ {
		typ := api.T{Kind: kind, Names: []string{"a", "b"}, L: []api.T{{}}}
		x := api.Expr{Kind: kind, N: math.MinInt64, Names: []string{"a", "b"}, L: []api.Expr{{}}, Ts: []api.T{{}}}
		Type(api.T{Kind: kind})
		Type(typ)
		Expr(api.Expr{Kind: kind})
		Expr(x)
		Decl(api.Decl{Kind: kind})
		File([]api.Decl{{Kind: kind, Ts: []api.T{typ, typ}, Es: []api.Expr{x, x}}})
	}
	for _, edge := range []int{math.MinInt, math.MaxInt} {
		if Type(api.T{Kind: edge}) != "" || Expr(api.Expr{Kind: edge}) != "" || Decl(api.Decl{Kind: edge}) != "" {
			t.Errorf("R1: what isn't a kind has a text")
		}
	}
}

// R4, R6: what is handed in stays as it is, and has the same text again.
func TestHandedInStays(t *testing.T) {
	m := maker{rand.New(rand.NewSource(5))}
	for range 200 {
		seed := m.Int63()
		made := func() []api.Decl {
			n := maker{rand.New(rand.NewSource(seed))}
			return []api.Decl{dUse(n.name()), dType("t", n.typ(4)), dLet("v", n.expr(4), n.typ(3))}
		}
		l := made()
		text := File(l)
		if !sameDecls(l, made()) {
			t.Fatalf("R4: %q isn't any more what it was", text)
		}
		if again := File(l); again != text {
			t.Fatalf("R6: %q, and again %q", text, again)
		}
	}
}
