package lex

import (
	"slices"
	"strings"
	"testing"
	"unsafe"

	"cupel/api"
)

func name(at int, s string) Tok { return Tok{Kind: TName, At: at, Text: s} }
func word(at int, s string) Tok { return Tok{Kind: TWord, At: at, Text: s} }
func num(at int, s string) Tok  { return Tok{Kind: TNum, At: at, Text: s} }
func text(at int, s string) Tok { return Tok{Kind: TText, At: at, Text: s} }
func sign(at int, s string) Tok { return Tok{Kind: TSign, At: at, Text: s} }

func noToken(at int) api.Diag { return api.Diag{At: at, Code: api.DiagToken} }
func great(at int) api.Diag   { return api.Diag{At: at, Code: api.DiagNumber} }

func allWords() []string {
	return []string{"use", "type", "let", "in", "if", "then", "else", "fun", "true", "false", "int", "bool", "text"}
}

func allSigns() []string {
	return []string{"->", "=", ":", ";", ",", ".", "(", ")", "{", "}", "|", "?"}
}

// wantLex holds what Lex tells against toks, with the end behind them, and told.
func wantLex(t *testing.T, src string, toks []Tok, told []api.Diag) {
	t.Helper()
	want := append(slices.Clone(toks), Tok{Kind: TEnd, At: len(src)})
	l, d := Lex(src)
	if !slices.Equal(l, want) {
		t.Errorf("Lex(%q): tokens %+v; wanted %+v", src, l, want)
	}
	if !slices.Equal(d, told) {
		t.Errorf("Lex(%q): told %+v; wanted %+v", src, d, told)
	}
}

// P4.1: the kinds are numbers from 1 to 6.
func TestKinds(t *testing.T) {
	if got, want := []int{TName, TWord, TNum, TText, TSign, TEnd}, []int{1, 2, 3, 4, 5, 6}; !slices.Equal(got, want) {
		t.Errorf("kinds: %v; wanted %v", got, want)
	}
}

// P4.1: the chapter's example.
func TestLexExample(t *testing.T) {
	wantLex(t, "let x=1;", []Tok{word(0, "let"), name(4, "x"), sign(5, "="), num(6, "1"), sign(7, ";")}, nil)
}

// P4.1: no source, blanks alone, remarks alone: only the end, at the source's length.
func TestLexWithoutTokens(t *testing.T) {
	for _, src := range []string{
		"", " ", "\t", "\n", "\r", " \t\r\n \n\n", "#", "##", "#\n", "# let x = 1;", "#a\n#b\n", "#a\r\n  #b", "# \"\n", "# \xff\x00 A - \"",
	} {
		wantLex(t, src, nil, nil)
	}
}

// P4.1: a name has small letters, digits and low lines, and begins with no digit.
func TestLexNames(t *testing.T) {
	for _, s := range []string{
		"a", "z", "_", "__", "_0", "_9", "a0", "z9", "a_1", "abcdefghijklmnopqrstuvwxyz", "_0123456789", "x" + strings.Repeat("y", 1<<16),
	} {
		wantLex(t, s, []Tok{name(0, s)}, nil)
		wantLex(t, " "+s+" ", []Tok{name(1, s)}, nil)
	}
}

// P4.1: each word is one, and what is near one is a name.
func TestLexWords(t *testing.T) {
	for _, w := range allWords() {
		wantLex(t, w, []Tok{word(0, w)}, nil)
		wantLex(t, w+"("+w, []Tok{word(0, w), sign(len(w), "("), word(len(w)+1, w)}, nil)
		for _, near := range []string{w + "_", w + "0", "_" + w, w + w, w[:1], w[1:] + "x"} {
			wantLex(t, near, []Tok{name(0, near)}, nil)
		}
	}
}

// P4.1: each sign is one, alone and right behind each other one.
func TestLexSigns(t *testing.T) {
	for _, a := range allSigns() {
		wantLex(t, a, []Tok{sign(0, a)}, nil)
		for _, b := range allSigns() {
			wantLex(t, a+b, []Tok{sign(0, a), sign(len(a), b)}, nil)
		}
	}
}

// P4.1: a - that is no -> is told, and so is a > that has no - right ahead.
func TestLexHalfArrows(t *testing.T) {
	wantLex(t, "-", nil, []api.Diag{noToken(0)})
	wantLex(t, ">", nil, []api.Diag{noToken(0)})
	wantLex(t, "- >", nil, []api.Diag{noToken(0), noToken(2)})
	wantLex(t, "-->", []Tok{sign(1, "->")}, []api.Diag{noToken(0)})
	wantLex(t, "->>", []Tok{sign(0, "->")}, []api.Diag{noToken(2)})
	wantLex(t, "a-1", []Tok{name(0, "a"), num(2, "1")}, []api.Diag{noToken(1)})
	wantLex(t, "-\n>", nil, []api.Diag{noToken(0), noToken(2)})
}

// P4.1: a number is told as it is written, up to 18 digits; one with more is told, and is 0, even of zeros alone.
func TestLexNumbers(t *testing.T) {
	for _, s := range []string{
		"0", "9", "10", "00", "007", "0123456789", "999999999999999999", "123456789012345678", strings.Repeat("0", 18),
	} {
		wantLex(t, s, []Tok{num(0, s)}, nil)
		wantLex(t, " "+s+";", []Tok{num(1, s), sign(len(s)+1, ";")}, nil)
	}
	for _, s := range []string{
		"1000000000000000000", "9999999999999999999", strings.Repeat("0", 19), strings.Repeat("0", 18) + "1", strings.Repeat("7", 1<<16),
	} {
		wantLex(t, s, []Tok{num(0, "0")}, []api.Diag{great(0)})
		wantLex(t, " "+s+";", []Tok{num(1, "0"), sign(len(s)+1, ";")}, []api.Diag{great(1)})
	}
}

// P4.1: as many bytes as there are belong to a name, and to a number.
func TestLexNamesAndNumbersRightBehindEachOther(t *testing.T) {
	wantLex(t, "1a", []Tok{num(0, "1"), name(1, "a")}, nil)
	wantLex(t, "a1", []Tok{name(0, "a1")}, nil)
	wantLex(t, "12let3", []Tok{num(0, "12"), name(2, "let3")}, nil)
	wantLex(t, "12let 3", []Tok{num(0, "12"), word(2, "let"), num(6, "3")}, nil)
	wantLex(t, "1_1", []Tok{num(0, "1"), name(1, "_1")}, nil)
	wantLex(t, "a.1.b", []Tok{name(0, "a"), sign(1, "."), num(2, "1"), sign(3, "."), name(4, "b")}, nil)
	wantLex(t, "0x1", []Tok{num(0, "0"), name(1, "x1")}, nil)
	wantLex(t, "1234567890123456789a", []Tok{num(0, "0"), name(19, "a")}, []api.Diag{great(0)})
}

// P4.1: a text has all bytes between its marks, but no byte 10.
func TestLexTexts(t *testing.T) {
	for _, s := range []string{
		"", " ", "x y", "#", "a # b", "let", "->", "-", "\t\r", "\\", "\\n", "'", "A", "\x00", "\xff\xfe", "\xc3\xa9", strings.Repeat("x", 1<<16),
	} {
		src := `"` + s + `"`
		wantLex(t, src, []Tok{text(0, s)}, nil)
		wantLex(t, " "+src+"a", []Tok{text(1, s), name(len(src)+1, "a")}, nil)
		wantLex(t, src+src, []Tok{text(0, s), text(len(src), s)}, nil)
	}
	wantLex(t, `a"b"1""`, []Tok{name(0, "a"), text(1, "b"), num(4, "1"), text(5, "")}, nil)
}

// P4.1: a text that isn't ended is passed over up to the byte 10, or the end, and told once.
func TestLexTextsThatAreNotEnded(t *testing.T) {
	wantLex(t, `"`, nil, []api.Diag{noToken(0)})
	wantLex(t, `"ab 1 = A - #`, nil, []api.Diag{noToken(0)})
	wantLex(t, "\"\n", nil, []api.Diag{noToken(0)})
	wantLex(t, "\"ab\nc", []Tok{name(4, "c")}, []api.Diag{noToken(0)})
	wantLex(t, "\"a\"\"b\nc\"", []Tok{text(0, "a"), name(6, "c")}, []api.Diag{noToken(3), noToken(7)})
	wantLex(t, "\"# a\nb", []Tok{name(5, "b")}, []api.Diag{noToken(0)})
	wantLex(t, "a \"x\n\"y\n\"z\"", []Tok{name(0, "a"), text(8, "z")}, []api.Diag{noToken(2), noToken(5)})
	wantLex(t, "\"a\rb", nil, []api.Diag{noToken(0)})
	wantLex(t, "\"a\\\"b\"", []Tok{text(0, "a\\"), name(4, "b")}, []api.Diag{noToken(5)})
}

// P4.1: each byte that no token begins with, and that is no blank, is told at its place, and passed over alone.
func TestLexBytesThatNoTokenBeginsWith(t *testing.T) {
	const begin = "abcdefghijklmnopqrstuvwxyz_0123456789\"=:;,.(){}|?" + " \t\n\r#"
	for c := range 256 {
		if strings.IndexByte(begin, byte(c)) >= 0 {
			continue
		}
		s := string([]byte{byte(c)})
		wantLex(t, s, nil, []api.Diag{noToken(0)})
		wantLex(t, "a"+s+s+"1", []Tok{name(0, "a"), num(3, "1")}, []api.Diag{noToken(1), noToken(2)})
	}
	wantLex(t, "LeT", []Tok{name(1, "e")}, []api.Diag{noToken(0), noToken(2)})
	wantLex(t, "é", nil, []api.Diag{noToken(0), noToken(1)})
	wantLex(t, "\v\f\u00a0", nil, []api.Diag{noToken(0), noToken(1), noToken(2), noToken(3)})
}

// P4.1: a remark goes up to a byte 10 or the end, and a token may stand right ahead of it and right behind it.
func TestLexRemarks(t *testing.T) {
	wantLex(t, "a#b\nc", []Tok{name(0, "a"), name(4, "c")}, nil)
	wantLex(t, "a#b\rc", []Tok{name(0, "a")}, nil)
	wantLex(t, "a#b", []Tok{name(0, "a")}, nil)
	wantLex(t, "#\"\na\"", []Tok{name(3, "a")}, []api.Diag{noToken(4)})
	wantLex(t, "1#\n#\n2", []Tok{num(0, "1"), num(5, "2")}, nil)
	wantLex(t, "-#>\n>", nil, []api.Diag{noToken(0), noToken(4)})
}

// P4.1: what is told is told in the order of the places, whatever its code.
func TestLexTellsInOrder(t *testing.T) {
	big := strings.Repeat("1", 19)
	src := big + "A" + big + "\"\n-" + big + "B"
	wantLex(t, src,
		[]Tok{num(0, "0"), num(20, "0"), num(42, "0")},
		[]api.Diag{great(0), noToken(19), great(20), noToken(39), noToken(41), great(42), noToken(61)})
}

// P4.1: the bytes of each token stand at its place, and no two tokens overlap, of many sources of odd bytes.
func TestLexPlaces(t *testing.T) {
	for _, src := range oddSources() {
		l, _ := Lex(src)
		behind := 0
		for _, k := range l[:len(l)-1] {
			s := k.Text
			if k.Kind == TText {
				s = `"` + s + `"`
			}
			if k.At < behind || !strings.HasPrefix(src[k.At:], s) {
				t.Fatalf("Lex(%q): %+v doesn't stand there", src, k)
			}
			behind = k.At + len(s)
		}
		if last := l[len(l)-1]; last != (Tok{Kind: TEnd, At: len(src)}) {
			t.Fatalf("Lex(%q): the end is %+v", src, last)
		}
	}
}

// oddSources are all sources of up to five of these bytes.
func oddSources() []string {
	all := []string{""}
	for from := 0; len(all) < 1<<16; {
		next := all[from:]
		from = len(all)
		for _, s := range next {
			for _, c := range "a0->\"#\n= A" {
				all = append(all, s+string(c))
			}
		}
	}
	return all
}

// R4, R6: asked again, the same is told, and no answer shares memory with another one or with the source.
func TestLexAnswersAreTheCallersOwn(t *testing.T) {
	src := "let abc = \"text\"; A 123"
	a, told := Lex(src)
	b, toldToo := Lex(src)
	for i := range a {
		if a[i].Text != "" && sharesBytes(a[i].Text, src) {
			t.Errorf("token %d: it shares its bytes with the source", i)
		}
		a[i] = Tok{Kind: -1, At: -1, Text: "changed"}
	}
	told[0] = api.Diag{At: -1, Code: -1, Name: "changed"}
	c, toldThen := Lex(src)
	if !slices.Equal(b, c) || !slices.Equal(toldToo, toldThen) {
		t.Errorf("told at first %+v, %+v; then %+v, %+v", b, toldToo, c, toldThen)
	}
	_ = append(b[:1], Tok{})
	if d, _ := Lex(src); !slices.Equal(c, d) {
		t.Errorf("told at last %+v; wanted %+v", d, c)
	}
}

// sharesBytes: does the part's first byte stand within the whole's memory?
func sharesBytes(part, whole string) bool {
	p, w := uintptr(unsafe.Pointer(unsafe.StringData(part))), uintptr(unsafe.Pointer(unsafe.StringData(whole)))
	return p >= w && p < w+uintptr(len(whole))
}

// P4.2: Name.
func TestName(t *testing.T) {
	for _, s := range []string{"a", "z", "_", "_0", "a1", "abc", "a_b", "lets", "_let", "let0", "tru", "x" + strings.Repeat("9", 1<<16)} {
		if !Name(s) {
			t.Errorf("Name(%q): false", s)
		}
	}
	for _, s := range append([]string{
		"", " ", "#", "\n", "a b", " a", "a ", "\ta", "a\n", "a\r", "a#", "#a", "#\na", "0", "1a", "a.b", "a-", "-a", "A", "aB", "Ab", "a\x00", "\x00", "\xff",
		"a\xff", "é", "aé", `"a"`, `"`, `a"`, "a;", "a;b", "a?", "?", "->", "let x", "a let", strings.Repeat("1", 19),
	}, append(allWords(), allSigns()...)...) {
		if Name(s) {
			t.Errorf("Name(%q): true", s)
		}
	}
}

// P4.2: Name says of each short source what Lex says of it.
func TestNameIsAsLex(t *testing.T) {
	for _, s := range oddSources() {
		l, told := Lex(s)
		want := len(l) == 2 && len(told) == 0 && l[0] == name(0, s)
		if Name(s) != want {
			t.Fatalf("Name(%q): %v; wanted %v", s, !want, want)
		}
	}
}

func wantSame(t *testing.T, a, b []Tok, want bool) {
	t.Helper()
	keptA, keptB := slices.Clone(a), slices.Clone(b)
	if Same(a, b) != want || Same(b, a) != want {
		t.Errorf("Same(%+v, %+v): %v, turned round %v; wanted %v", a, b, Same(a, b), Same(b, a), want)
	}
	if !slices.Equal(a, keptA) || !slices.Equal(b, keptB) {
		t.Errorf("Same(%+v, %+v): it changed them", keptA, keptB)
	}
}

// P4.2: Same.
func TestSame(t *testing.T) {
	one := []Tok{name(0, "a"), sign(1, "=")}
	wantSame(t, nil, nil, true)
	wantSame(t, nil, []Tok{}, true)
	wantSame(t, one, one, true)
	wantSame(t, one, []Tok{name(7, "a"), sign(1<<40, "=")}, true)
	wantSame(t, one, []Tok{name(-1, "a"), sign(-1<<63, "=")}, true)
	wantSame(t, one, nil, false)
	wantSame(t, one, []Tok{}, false)
	wantSame(t, one, one[:1], false)
	wantSame(t, one, append(slices.Clone(one), Tok{Kind: TEnd, At: 2}), false)
	wantSame(t, one, []Tok{name(0, "b"), sign(1, "=")}, false)
	wantSame(t, one, []Tok{name(0, "a"), sign(1, ":")}, false)
	wantSame(t, one, []Tok{text(0, "a"), sign(1, "=")}, false)
	wantSame(t, one, []Tok{sign(1, "="), name(0, "a")}, false)
	wantSame(t, []Tok{num(0, "0")}, []Tok{num(0, "00")}, false)
	wantSame(t, []Tok{{Kind: TEnd}}, []Tok{{Kind: TEnd, At: 9}}, true)
	wantSame(t, []Tok{{}}, []Tok{{Kind: TEnd}}, false)
}

// P4.3: whatever gaps stand between tokens, ahead of them and behind them, the tokens are the same, and as much is told.
func TestGapsChangeNoToken(t *testing.T) {
	pieces := []string{
		"let", "x", ":", "{", "b", ":", "int", "}", "->", "?", "=", "fun", "(", "y", ")", "\"x # y\"", ";", "1", "2", "a", "A", "-", "1234567890123456789", "|", "\"\"", ".", "\xff",
	}
	first, toldFirst := Lex(strings.Join(pieces, " "))
	if len(first) != len(pieces)-3+1 || len(toldFirst) != 4 {
		t.Fatalf("%d tokens, %d told", len(first), len(toldFirst))
	}
	for _, gap := range []string{"\t", "\n", "\r", "\r\n", "   ", "#\n", "# let \"\n", "\n#a\n\n#b\r\n\t", " # \xff A - 1234567890123456789 \" \n "} {
		l, told := Lex(gap + strings.Join(pieces, gap) + gap)
		if !Same(first, l) {
			t.Errorf("gap %q: %+v; wanted %+v", gap, l, first)
		}
		if len(told) != len(toldFirst) {
			t.Errorf("gap %q: told %+v; as with blanks %+v", gap, told, toldFirst)
		}
	}
	l, _ := Lex(strings.Join(pieces, " ") + " # up to the end")
	if !Same(first, l) {
		t.Errorf("with a remark at the end: %+v; wanted %+v", l, first)
	}
}

// P4.3: where signs and texts stand right behind each other, a gap between them changes nothing either.
func TestGapsAroundSigns(t *testing.T) {
	tight, _ := Lex(`let x:{b:int}->?=fun(y)"t".b;`)
	loose, _ := Lex("let x : { b : int } # a record\n -> ? = fun ( y ) \"t\" . b ; # done")
	wantSame(t, tight, loose, true)
	apart, _ := Lex(`let x : { b : i nt } -> ? = fun (y) "t" . b;`)
	wantSame(t, tight, apart, false)
}
