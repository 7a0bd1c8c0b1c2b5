package parse

import (
	"fmt"
	"reflect"
	"slices"
	"strings"
	"testing"

	"weathervane/api"
	"weathervane/canon"
	"weathervane/lex"
	"weathervane/module"
	"weathervane/rule"
)

func local(n int) api.Ref  { return api.Ref{Kind: api.Local, ID: n} }
func global(n int) api.Ref { return api.Ref{Kind: api.Global, ID: n} }
func fun(n int) api.Ref    { return api.Ref{Kind: api.Fun, ID: n} }
func site(n int) api.Ref   { return api.Ref{Kind: api.Site, ID: n} }

func block(l ...api.Stmt) api.Stmt { return api.Stmt{Kind: api.Block, Body: l} }

var fine = api.Fault{Func: -1, Stmt: -1}

func broken(r, fn, stmt int) api.Fault {
	return api.Fault{Err: api.ErrRule, Rule: r, Func: fn, Stmt: stmt}
}

// short: a text, or a module, as a failing test tells it.
func short(x any) string {
	s := fmt.Sprintf("%+v", x)
	return s[:min(len(s), 500)]
}

// sorted: the module with its strings sorted, and its names by these: so the order in which strings came doesn't matter.
func sorted(m api.Module) api.Module {
	c := module.Copy(m)
	slices.Sort(c.Strings)
	renumber := func(l []int) {
		for i, n := range l {
			l[i], _ = slices.BinarySearch(c.Strings, m.Strings[n])
		}
	}
	renumber(c.Globals)
	for i := range c.Funcs {
		f := &c.Funcs[i]
		name := []int{f.Name}
		renumber(name)
		f.Name = name[0]
		renumber(f.Locals)
		renumber(f.Sites)
	}
	return c
}

// checkTree: the text's module is this one, whose strings are sorted, each once.
func checkTree(t *testing.T, s string, want api.Module) {
	t.Helper()
	m, x := Tree([]byte(s))
	if x != fine {
		t.Errorf("Tree %s: %+v", short(s), x)
		return
	}
	if got := sorted(m); !module.Equal(got, want) {
		t.Errorf("Tree %s: %s, want %s", short(s), short(got), short(want))
	}
}

// checkFault: neither call has a module of this text, but a fault at this place, and nothing beside it.
func checkFault(t *testing.T, s string, at int) {
	t.Helper()
	want := lex.Syntax([]byte(s), at)
	for name, call := range map[string]func([]byte) (api.Module, api.Fault){"Tree": Tree, "Module": Module} {
		if m, x := call([]byte(s)); x != want || !reflect.DeepEqual(m, api.Module{}) {
			t.Errorf("%s %s: %+v beside %s, want %+v", name, short(s), x, short(m), want)
		}
	}
}

// P9.1, P9.2: a text with all that the grammar has, by hand.
func TestTreeByHand(t *testing.T) {
	checkTree(t, `
global $g; // what all see
entry @main;
func @f(%a, %b) {
	var %c;
	site #h;
	var %d;
	site #"h 2";
	%c = &#"h 2";
	{ *%c = %a; { } %d = *$g; }
	return %c;
}
global $k;
func @main() {
	var %c;
	%c = @f(%c, $k);
	$g(%c);
}
entry @f;
`, api.Module{
		Strings: []string{"a", "b", "c", "d", "f", "g", "h", "h 2", "k", "main"},
		Globals: []int{5, 8},
		Funcs: []api.Func{
			{Name: 4, Params: 2, Locals: []int{0, 1, 2, 3}, Sites: []int{6, 7}, Body: []api.Stmt{
				{Kind: api.Take, A: local(2), B: site(1)},
				block(
					api.Stmt{Kind: api.Store, A: local(2), B: local(0)},
					block(),
					api.Stmt{Kind: api.Load, A: local(3), B: global(0)},
				),
				{Kind: api.Return, B: local(2)},
			}},
			{Name: 9, Locals: []int{2}, Body: []api.Stmt{
				{Kind: api.Call, A: local(0), B: fun(0), Args: []api.Ref{local(0), global(1)}},
				{Kind: api.Call, B: global(0), Args: []api.Ref{local(0)}},
			}},
		},
		Entries: []int{1, 0},
	})
	checkTree(t, "func @f(%a) { return %a; }", api.Module{
		Strings: []string{"a", "f"},
		Funcs:   []api.Func{{Name: 1, Params: 1, Locals: []int{0}, Body: []api.Stmt{{Kind: api.Return, B: local(0)}}}},
	})
}

// P9.1: nothing is a module, with nothing in it; so are blanks and comments.
func TestEmpty(t *testing.T) {
	for _, s := range []string{"", " \t\r\n", "// a", "/* global $g; */\n"} {
		checkTree(t, s, api.Module{})
		if m, x := Module([]byte(s)); x != fine || !module.Equal(m, api.Module{}) {
			t.Errorf("Module %q: %+v, %+v", s, m, x)
		}
	}
	if m, x := Tree(nil); x != fine || !module.Equal(m, api.Module{}) {
		t.Errorf("Tree of nil: %+v, %+v", m, x)
	}
	if m, x := Module(nil); x != fine || !module.Equal(m, api.Module{}) {
		t.Errorf("Module of nil: %+v, %+v", m, x)
	}
}

// P9.1: every form that a statement may have, with each mark that may stand in it.
func TestStatements(t *testing.T) {
	stmt := func(kind byte, a, b api.Ref, args ...api.Ref) api.Stmt {
		return api.Stmt{Kind: kind, A: a, B: b, Args: args}
	}
	p, v, g, f, h := local(0), local(1), global(0), fun(0), site(0)
	none := api.Ref{}
	for s, want := range map[string]api.Stmt{
		"%p = %v;":              stmt(api.Move, p, v),
		"%p = $g;":              stmt(api.Move, p, g),
		"$g = %v;":              stmt(api.Move, g, v),
		"$g = $g;":              stmt(api.Move, g, g),
		"%p = *%v;":             stmt(api.Load, p, v),
		"%p = *$g;":             stmt(api.Load, p, g),
		"$g = *%v;":             stmt(api.Load, g, v),
		"$g = *$g;":             stmt(api.Load, g, g),
		"%p = &%v;":             stmt(api.Take, p, v),
		"%p = &$g;":             stmt(api.Take, p, g),
		"%p = &@f;":             stmt(api.Take, p, f),
		"%p = &#h;":             stmt(api.Take, p, h),
		"$g = &%v;":             stmt(api.Take, g, v),
		"$g = &$g;":             stmt(api.Take, g, g),
		"$g = &@f;":             stmt(api.Take, g, f),
		"$g = &#h;":             stmt(api.Take, g, h),
		"*%p = %v;":             stmt(api.Store, p, v),
		"*%p = $g;":             stmt(api.Store, p, g),
		"*$g = %v;":             stmt(api.Store, g, v),
		"*$g = $g;":             stmt(api.Store, g, g),
		"return %v;":            stmt(api.Return, none, v),
		"return $g;":            stmt(api.Return, none, g),
		"@f();":                 stmt(api.Call, none, f),
		"%v();":                 stmt(api.Call, none, v),
		"$g();":                 stmt(api.Call, none, g),
		"@f(%p);":               stmt(api.Call, none, f, p),
		"%v($g);":               stmt(api.Call, none, v, g),
		"$g(%p, $g, %v);":       stmt(api.Call, none, g, p, g, v),
		"%p = @f();":            stmt(api.Call, p, f),
		"%p = %v();":            stmt(api.Call, p, v),
		"%p = $g();":            stmt(api.Call, p, g),
		"$g = @f(%v);":          stmt(api.Call, g, f, v),
		"$g = %v($g, $g);":      stmt(api.Call, g, v, g, g),
		"$g = $g(%p,%v,%p,$g);": stmt(api.Call, g, g, p, v, p, g),
		"{ }":                   block(),
		"{{}{}}":                block(block(), block()),
		"{ %p = %v; return $g; { @f(); } *%p = %v; }": block(
			stmt(api.Move, p, v), stmt(api.Return, none, g), block(stmt(api.Call, none, f)), stmt(api.Store, p, v)),
	} {
		for _, gap := range []string{"", " ", "\n/**/"} {
			m := api.Module{
				Strings: []string{"f", "g", "h", "p", "v"},
				Globals: []int{1},
				Funcs:   []api.Func{{Name: 0, Params: 1, Locals: []int{3, 4}, Sites: []int{2}, Body: []api.Stmt{want, want}}},
			}
			around := strings.ReplaceAll(s, " ", gap)
			if strings.HasPrefix(around, "return") {
				around = "return " + around[len("return"):]
			}
			checkTree(t, "global $g; func @f(%p) { var %v; site #h; "+around+gap+around+" }", m)
			m.Funcs[0].Body = []api.Stmt{block(want)}
			checkTree(t, "func @f(%p) { site #h; var %v; {"+around+"} } global $g;", m)
		}
	}
}

// body: the statements of the first function of a text, which is to be right.
func body(t *testing.T, s string) []api.Stmt {
	t.Helper()
	m, x := Tree([]byte(s))
	if x != fine || len(m.Funcs) == 0 {
		t.Fatalf("Tree %s: %+v, %s", short(s), x, short(m))
	}
	return m.Funcs[0].Body
}

// checkBody: the statements of the first function of a text are these.
func checkBody(t *testing.T, s string, want ...api.Stmt) {
	t.Helper()
	if got := body(t, s); !module.SameBody(got, want) {
		t.Errorf("%s: %s, want %s", short(s), short(got), short(want))
	}
}

// P9.2: names of globals and functions are all there are, wherever they stand, in every place of a statement and of an entry.
func TestWhatStandsBehind(t *testing.T) {
	g, h, k, f, e := global(0), global(1), global(2), fun(1), fun(2)
	s := `entry @e; entry @f; entry @a;
		func @a() {
			$h = $g; $h = *$g; $h = &$g; $h = &@f; *$h = $g; return $h; @f($g, $h, $k); $k($k); $g = @e($h); $h = $g($k, $h);
			{ $h = $g; { *$g = $h; } @e($k); }
			$k = &@e;
		}
		global $g; func @f() { } global $h; global $k; func @e() { }`
	want := []api.Stmt{
		{Kind: api.Move, A: h, B: g},
		{Kind: api.Load, A: h, B: g},
		{Kind: api.Take, A: h, B: g},
		{Kind: api.Take, A: h, B: f},
		{Kind: api.Store, A: h, B: g},
		{Kind: api.Return, B: h},
		{Kind: api.Call, B: f, Args: []api.Ref{g, h, k}},
		{Kind: api.Call, B: k, Args: []api.Ref{k}},
		{Kind: api.Call, A: g, B: e, Args: []api.Ref{h}},
		{Kind: api.Call, A: h, B: g, Args: []api.Ref{k, h}},
		block(
			api.Stmt{Kind: api.Move, A: h, B: g},
			block(api.Stmt{Kind: api.Store, A: g, B: h}),
			api.Stmt{Kind: api.Call, B: e, Args: []api.Ref{k}},
		),
		{Kind: api.Take, A: k, B: e},
	}
	checkBody(t, s, want...)
	// The same, where all but the functions' own order is ahead.
	checkBody(t, "global $g; global $h; global $k;"+strings.NewReplacer("global $g;", "", "global $h;", "", "global $k;", "").Replace(s), want...)
	m, _ := Tree([]byte(s))
	if !slices.Equal(m.Entries, []int{2, 1, 0}) {
		t.Errorf("entries: %v", m.Entries)
	}
}

// P9.2: likewise of many statements, whose lists grow after a reference was read.
func TestManyBehind(t *testing.T) {
	const n = 3000
	var s strings.Builder
	var want []api.Stmt
	s.WriteString("func @a() {\n")
	for i := range n {
		j := i * 7 % n
		fmt.Fprintf(&s, "{ $g%d = @f%d($g%d, $g%d); } *$g%d = $g%d;\n", i, j, j, i, j, i)
		want = append(want,
			block(api.Stmt{Kind: api.Call, A: global(i), B: fun(1 + j), Args: []api.Ref{global(j), global(i)}}),
			api.Stmt{Kind: api.Store, A: global(j), B: global(i)})
	}
	s.WriteString("}\n")
	for i := range n {
		fmt.Fprintf(&s, "global $g%d; func @f%d() { }\n", i, i)
	}
	checkBody(t, s.String(), want...)
}

// P9.2: locals are the parameters, and vars in order; sites in order; each function has its own.
func TestLocals(t *testing.T) {
	checkTree(t, "func @b(%x, %a) { site #x; var %c; var %b; site #a; %c = %x; %b = &#a; } func @a(%b) { var %a; %a = %b; } func @c() { site #b; } func @d(%c) { }",
		api.Module{Strings: []string{"a", "b", "c", "d", "x"}, Funcs: []api.Func{
			{Name: 1, Params: 2, Locals: []int{4, 0, 2, 1}, Sites: []int{4, 0}, Body: []api.Stmt{
				{Kind: api.Move, A: local(2), B: local(0)},
				{Kind: api.Take, A: local(3), B: site(1)},
			}},
			{Name: 0, Params: 1, Locals: []int{1, 0}, Body: []api.Stmt{{Kind: api.Move, A: local(1), B: local(0)}}},
			{Name: 2, Sites: []int{1}},
			{Name: 3, Params: 1, Locals: []int{2}},
		}})
}

// P9.2: a name that isn't there has the number -1, in every place; what has another mark, or is another function's, doesn't help.
func TestMissing(t *testing.T) {
	l, g, f, h := local(-1), global(-1), fun(-1), site(-1)
	checkBody(t, `
		func @a(%g, %q) {
			site #n; var %r;
			%n = $n; $g = *%h; %n = &@n; *%n = $q; return $r; return %n;
			%n(%n, $n, %q); $n = @q(); @g(%n); %n = &#q; { $n = &%n; $n = &$n; }
		}
		func @other(%n, %h) { site #q; var %n; }
		entry @n; entry @a; entry @g;`,
		api.Stmt{Kind: api.Move, A: l, B: g},
		api.Stmt{Kind: api.Load, A: g, B: l},
		api.Stmt{Kind: api.Take, A: l, B: f},
		api.Stmt{Kind: api.Store, A: l, B: g},
		api.Stmt{Kind: api.Return, B: g},
		api.Stmt{Kind: api.Return, B: l},
		api.Stmt{Kind: api.Call, B: l, Args: []api.Ref{l, g, local(1)}},
		api.Stmt{Kind: api.Call, A: g, B: f},
		api.Stmt{Kind: api.Call, B: f, Args: []api.Ref{l}},
		api.Stmt{Kind: api.Take, A: l, B: h},
		block(api.Stmt{Kind: api.Take, A: g, B: l}, api.Stmt{Kind: api.Take, A: g, B: g}),
	)
	m, x := Tree([]byte("entry @n; entry @a; func @a() { } entry @g; global $g; global $n; entry @A;"))
	if x != fine || !slices.Equal(m.Entries, []int{-1, 0, -1, -1}) {
		t.Errorf("entries: %v, %+v", m.Entries, x)
	}
	checkBody(t, "func @b() { %a = &#h; } func @a(%a) { site #h; }", api.Stmt{Kind: api.Take, A: l, B: h})
	checkTree(t, "func @a(%a) { site #h; } func @b() { %a = &#h; }", api.Module{Strings: []string{"a", "b", "h"}, Funcs: []api.Func{
		{Params: 1, Locals: []int{0}, Sites: []int{2}},
		{Name: 1, Body: []api.Stmt{{Kind: api.Take, A: l, B: h}}},
	}})
}

// P9.2: of names that are there twice the first, wherever they stand; all that is declared is there.
func TestTwice(t *testing.T) {
	checkTree(t, `
		entry @f; entry @g; entry @g;
		func @g(%a, %b, %a) {
			var %c; var %b; var %c; site #h; site #h;
			$x = %a; $y = %b; $x = %c; $y = &#h; @g(); @f();
		}
		global $y; global $x; global $y;
		func @f() { $x = $y; }
		func @g(%b) { %b = $y; @g(); @f(); }
		func @f() { site #h; }
		global $x;
		entry @g;`,
		api.Module{
			Strings: []string{"a", "b", "c", "f", "g", "h", "x", "y"},
			Globals: []int{7, 6, 7, 6},
			Funcs: []api.Func{
				{Name: 4, Params: 3, Locals: []int{0, 1, 0, 2, 1, 2}, Sites: []int{5, 5}, Body: []api.Stmt{
					{Kind: api.Move, A: global(1), B: local(0)},
					{Kind: api.Move, A: global(0), B: local(1)},
					{Kind: api.Move, A: global(1), B: local(3)},
					{Kind: api.Take, A: global(0), B: site(0)},
					{Kind: api.Call, B: fun(0)},
					{Kind: api.Call, B: fun(1)},
				}},
				{Name: 3, Body: []api.Stmt{{Kind: api.Move, A: global(1), B: global(0)}}},
				{Name: 4, Params: 1, Locals: []int{1}, Body: []api.Stmt{
					{Kind: api.Move, A: local(0), B: global(0)},
					{Kind: api.Call, B: fun(0)},
					{Kind: api.Call, B: fun(1)},
				}},
				{Name: 3, Sites: []int{5}},
			},
			Entries: []int{1, 0, 0, 0},
		})
}

// P9.2: the strings are the names of all that is declared, each once; those that are only referred to are none.
func TestStrings(t *testing.T) {
	for s, want := range map[string][]string{
		"":           nil,
		"entry @e;":  nil,
		"global $g;": {"g"},
		"global $x; func @x(%x) { var %y; site #x; }":                              {"x", "y"},
		"func @f() { %a = $b; @c(%d); %e = &#h; *$i = %j; return %k; } global $z;": {"f", "z"},
		`global $b; global $"b"; global $"\x62"; global $""; global $"\xff ";`:     {"", "b", "\xff "},
		"global $func; func @func(%return) { var %var; site #site; }":              {"func", "return", "site", "var"},
		"global $a; global $A; global $a.; global $a_;":                            {"A", "a", "a.", "a_"},
	} {
		m, x := Tree([]byte(s))
		got := slices.Sorted(slices.Values(m.Strings))
		if x != fine || !slices.Equal(got, want) {
			t.Errorf("%s: %q, %+v, want %q", s, m.Strings, x, want)
		}
	}
	long := strings.Repeat("a", 1000)
	if m, x := Tree([]byte("global $" + long + ";")); x != fine || !slices.Equal(m.Strings, []string{long}) {
		t.Errorf("a long name: %+v, %s", x, short(m))
	}
}

// P9.1: names aren't words or signs, whatever their texts, and words are whole.
func TestNamesAreNames(t *testing.T) {
	checkTree(t, `func @"func"(%"(", %";") { %"(" = %";"; @"func"(%"(", %";"); return %"("; }`, api.Module{
		Strings: []string{"(", ";", "func"},
		Funcs: []api.Func{{Name: 2, Params: 2, Locals: []int{0, 1}, Body: []api.Stmt{
			{Kind: api.Move, A: local(0), B: local(1)},
			{Kind: api.Call, B: fun(0), Args: []api.Ref{local(0), local(1)}},
			{Kind: api.Return, B: local(0)},
		}}},
	})
	checkFault(t, "%func @f() { }", 0)
	checkFault(t, `func @f%"(") { }`, 7)
	checkFault(t, `func @f() { %a %"="%b; }`, 15)
	checkFault(t, "func @f() { %var %a; }", 17)
	checkFault(t, "funcs @f() { }", 0)
	checkFault(t, "fun @f() { }", 0)
	checkFault(t, "func @f() { vars %a; }", 12)
	checkFault(t, "func @f() { returns %a; }", 12)
	checkFault(t, "globalentry @f;", 0)
}

// P9.2: where no token stands that goes on, by hand: with line and column.
func TestFaultsByHand(t *testing.T) {
	for s, at := range map[string]int{
		"global": 6, "global ": 7, "global // a": 11, "global\n\n": 8, "global $g": 9, "global $g, $h;": 9, "global %g;": 7, "global @g;": 7, "global g;": 7, "global $g;;": 10, "global global": 7,
		"entry": 5, "entry @f": 8, "entry $f;": 6, "entry %f;": 6, "entry @f();": 8, "entry @f;}": 9,
		"func": 4, "func %f() { }": 5, "func @f": 7, "func @f { }": 8, "func @f(": 8, "func @f(,": 8, "func @f($a) { }": 8, "func @f(%a": 10, "func @f(%a,) { }": 11, "func @f(%a,,": 11, "func @f(%a %b) { }": 11, "func @f(%a;": 10, "func @f()": 9, "func @f();": 9, "func @f() {": 11, "func @f() { } }": 14, "func @f() { };": 13,
		"x": 0, ";": 0, "}": 0, "%a": 0, "{ }": 0, "var %a;": 0, "return %a;": 0, "site #h;": 0, "// \n  func\n": 11,
		"func @f() { var }": 16, "func @f() { var #a; }": 16, "func @f() { var $a; }": 16, "func @f() { var %a, %b; }": 18, "func @f() { var %a = %b; }": 19, "func @f() { site %a; }": 17, "func @f() { site #a }": 20, "func @f() { site h; }": 17,
		"func @f() { return; }": 18, "func @f() { return %a }": 22, "func @f() { return @f; }": 19, "func @f() { return #h; }": 19, "func @f() { return *%a; }": 19, "func @f() { return &%a; }": 19, "func @f() { return %a(); }": 21,
		"func @f() { %a; }": 14, "func @f() { %a = ; }": 17, "func @f() { %a = %b }": 20, "func @f() { %a = %b, %c; }": 19, "func @f() { %a = %b = %c; }": 20, "func @f() { %a == %b; }": 16, "func @f() { %a = #h; }": 17, "func @f() { %a = @f; }": 19, "func @f() { %a = x; }": 17, "func @f() { #h = %a; }": 12, "func @f() { @f = %a; }": 15, "func @f() { @f; }": 14,
		"func @f() { %a = **%b; }": 18, "func @f() { %a = *@f; }": 18, "func @f() { %a = *#h; }": 18, "func @f() { %a = *%b(); }": 20, "func @f() { %a = &; }": 18, "func @f() { %a = &&%b; }": 18, "func @f() { %a = &*%b; }": 18, "func @f() { %a = &%b(); }": 20, "func @f() { %a = &@f(); }": 20,
		"func @f() { * = %a; }": 14, "func @f() { *@f = %a; }": 13, "func @f() { *#h = %a; }": 13, "func @f() { **%a = %b; }": 13, "func @f() { *%a(); }": 15, "func @f() { *%a; }": 15, "func @f() { *%a = @f(); }": 18, "func @f() { *%a = *%b; }": 18, "func @f() { *%a = &%b; }": 18, "func @f() { *%a = %b(); }": 20, "func @f() { &%a = %b; }": 12,
		"func @f() { @f( }": 16, "func @f() { @f(); ": 18, "func @f() { @f() }": 17, "func @f() { @f(@f); }": 15, "func @f() { @f(#h); }": 15, "func @f() { @f(*%a); }": 15, "func @f() { @f(&%a); }": 15, "func @f() { @f(%a %b); }": 18, "func @f() { @f(%a,); }": 18, "func @f() { @f(,%a); }": 15, "func @f() { @f()(); }": 16, "func @f() { @f() = %a; }": 17, "func @f() { @f(@f()); }": 15, "func @f() { @f(%a(); }": 17, "func @f() { %a = @f()(); }": 21, "func @f() { #h(); }": 12, "func @f() { %a = #h(); }": 17,
		"func @f() { { }": 15, "func @f() { { } ; }": 16, "func @f() { {;} }": 13, "func @f() { ; }": 12, "func @f() { { var %a; } }": 14, "func @f() { { site #h; } }": 14, "func @f() { %a = %b; var %c; }": 21, "func @f() { { } site #h; }": 16, "func @f() { func @g() { } }": 12, "func @f() { global $g; }": 12, "func @f() { entry @f; }": 12, "func @f() { return var %a; }": 19,
	} {
		checkFault(t, s, at)
		// Whatever comes further on, as long as it is tokens: the first one is told.
		if at < len(s) {
			checkFault(t, s+"\n; func func ( @ \"", len(s)+16)
			checkFault(t, s+"\n; func func (", at)
			checkFault(t, "global $g;\n/* \n */\n"+s, 19+at)
		}
	}
	p := []byte("global $g;\nfunc @f() {\n\t%a = %b\n}\n")
	if _, x := Tree(p); x != (api.Fault{Err: api.ErrSyntax, At: 32, Line: 4, Col: 1, Func: -1, Stmt: -1}) {
		t.Errorf("%+v", x)
	}
	p = []byte("\n  x")
	if _, x := Module(p); x != (api.Fault{Err: api.ErrSyntax, At: 3, Line: 2, Col: 3, Func: -1, Stmt: -1}) {
		t.Errorf("%+v", x)
	}
}

// P9.2: the first place at which no token stands is told, if there is any, also ahead of tokens with which no module goes on.
func TestNoTokenFirst(t *testing.T) {
	for _, ahead := range []string{
		"", "global $g; ", "func @f() { ", "x ", "; ; ", "global ", "func @f() { } } ", "func @f() { %a ( ( ", "func @f() { " + strings.Repeat("{ ", 200), strings.Repeat("} ", 100),
	} {
		for s, at := range map[string]int{"?": 0, "%": 1, "% a": 1, `$"a`: 3, `@"a\q"`: 3, "/*": 0, "/": 0, "a A": 2, "9": 0, "\x00": 0, "#9": 1, "é": 0} {
			checkFault(t, ahead+s, len(ahead)+at)
			checkFault(t, ahead+s+"\n? /* %", len(ahead)+at)
			checkFault(t, ahead+"global $g; "+s, len(ahead)+11+at)
		}
	}
}

// P9.2: as many as Deepest blocks may stand in one another; the { of one more is the fault.
func TestDeepest(t *testing.T) {
	if Deepest != 100 {
		t.Errorf("Deepest: %d", Deepest)
	}
	nested := func(n int, inner ...api.Stmt) []api.Stmt {
		for range n {
			inner = []api.Stmt{block(inner...)}
		}
		return inner
	}
	const head = "func @f() { "
	for _, n := range []int{1, 8, 9, 99, 100} {
		open, shut := strings.Repeat("{", n), strings.Repeat("}", n)
		checkBody(t, head+open+shut+"}", nested(n)...)
		call := api.Stmt{Kind: api.Call, B: fun(0)}
		checkBody(t, head+open+"@f();"+shut+"@f(); }", append(nested(n, call), call)...)
		// How many there are one behind another is no bound.
		checkBody(t, head+strings.Repeat(open+shut, 3)+"}", slices.Concat(nested(n), nested(n), nested(n))...)
		checkFault(t, head+open, len(head)+n)
		checkFault(t, head+open+shut, len(head)+2*n)
	}
	for _, n := range []int{101, 102, 1000, 100000} {
		open, shut := strings.Repeat("{", n), strings.Repeat("}", n)
		checkFault(t, head+open+shut+"}", len(head)+100)
		checkFault(t, head+open, len(head)+100)
		checkFault(t, head+open+"x", len(head)+100)
	}
	open, shut := strings.Repeat("{", 100), strings.Repeat("}", 100)
	checkFault(t, head+open+"@f();\n { }"+shut+"}", len(head)+107)
	checkFault(t, head+open+"@f(); {} {} x"+shut+"}", len(head)+106)
	checkFault(t, head+open+"x { }"+shut+"}", len(head)+100)
	checkFault(t, head+open+"} {{"+shut+"}", len(head)+103)
	checkFault(t, head+open+"@f {"+shut+"}", len(head)+103)
	checkFault(t, head+open+shut+"} func @g() { {"+open+shut+"} }", len(head)+314)
	// A function's own { is no block's.
	checkBody(t, head+open+shut+"} func @g() {"+open+shut+"}", nested(100)...)
}

// The chapter's grammar: capital letters are what it names (and what it has between ( .. )* and [ .. ]), small ones its words, $ % @ # names by their marks, . the end; x is a word that it has not.
var grammar = map[byte][]string{
	'M': {"", "g$;M", "e@;M", "FM"},
	'F': {"f@(P){DS}"},
	'P': {"", "%Q"},
	'Q': {"", ",%Q"},
	'D': {"", "v%;D", "s#;D"},
	'S': {"", "TS"},
	'T': {"{S}", "V=W;", "*V=V;", "C(A);", "rV;"},
	'W': {"V", "*V", "&V", "&@", "&#", "C(A)"},
	'A': {"", "VB"},
	'B': {"", ",VB"},
	'V': {"%", "$"},
	'C': {"V", "@"},
}

const tokens = "gefvsrx%$@#;=&*(),{}"

// words: the grammar's words, by their letters.
var words = map[byte]string{'g': "global", 'e': "entry", 'f': "func", 'v': "var", 's': "site", 'r': "return", 'x': "block"}

// written: tokens as a text, with these gaps behind them, in turn.
func written(row string, gaps ...string) string {
	var s strings.Builder
	for i := range len(row) {
		switch w, ok := words[row[i]]; {
		case ok:
			s.WriteString(w)
		case strings.Contains("%$@#", row[i:i+1]):
			s.WriteString(row[i:i+1] + "a")
		default:
			s.WriteByte(row[i])
		}
		s.WriteString(gaps[i%len(gaps)])
	}
	return s.String()
}

// letter: a token as the grammar has it.
func letter(k lex.Token) byte {
	switch k.Kind {
	case lex.End:
		return '.'
	case lex.Name:
		return k.Mark
	case lex.Sign:
		return k.Text[0]
	}
	for l, w := range words {
		if w == k.Text {
			return l
		}
	}
	return 'x'
}

// oracle goes through tokens by the grammar alone: it has everything that may still follow.
type oracle struct {
	rests []string
	deep  int // how many { are open, a function's own too
}

func newOracle() oracle {
	return oracle{rests: []string{"M."}}
}

// step: behind one more token; not ok: no module goes on with it, or it is a { too deep.
func (o oracle) step(token byte) (oracle, bool) {
	next := oracle{deep: o.deep}
	left := slices.Clone(o.rests)
	for len(left) > 0 {
		rest := left[len(left)-1]
		left = left[:len(left)-1]
		if rest == "" {
			continue
		}
		if forms, ok := grammar[rest[0]]; ok {
			for _, form := range forms {
				left = append(left, form+rest[1:])
			}
		} else if rest[0] == token && !slices.Contains(next.rests, rest[1:]) {
			next.rests = append(next.rests, rest[1:])
		}
	}
	switch token {
	case '{':
		if next.deep == 101 {
			return next, false
		}
		next.deep++
	case '}':
		next.deep--
	}
	return next, len(next.rests) > 0
}

// faultOf: the place of the fault that a text has; or -1. By layer 8's tokens, and the grammar.
func faultOf(s string) int {
	fault := -1
	o := newOracle()
	for x := lex.New([]byte(s)); ; {
		k, at, e := x.Next()
		if e != api.OK {
			return at
		}
		if fault < 0 {
			next, ok := o.step(letter(k))
			if !ok {
				fault = k.At
			}
			o = next
		}
		if k.Kind == lex.End {
			return fault
		}
	}
}

// checkText: a text is read, or has its fault, as the grammar says: does it have one?
func checkText(t *testing.T, s string) bool {
	t.Helper()
	at := faultOf(s)
	want := fine
	if at >= 0 {
		want = lex.Syntax([]byte(s), at)
	}
	m, x := Tree([]byte(s))
	if x != want || at >= 0 && !reflect.DeepEqual(m, api.Module{}) {
		t.Errorf("%s: %+v beside %s, want %+v", short(s), x, short(m), want)
	}
	return at >= 0
}

// P9.1, P9.2, P1: all short rows of tokens that the grammar lets begin, and each token behind them, by the grammar.
func TestGrammarShort(t *testing.T) {
	right, wrong := 0, 0
	var from func(row string, o oracle, left int)
	from = func(row string, o oracle, left int) {
		if checkText(t, written(row, " ")) {
			wrong++
		} else {
			right++
		}
		for _, token := range []byte(tokens) {
			if t.Failed() {
				return
			}
			next, ok := o.step(token)
			switch {
			case !ok:
				checkText(t, written(row+string(token)+";}", " "))
			case left > 0:
				from(row+string(token), next, left-1)
			}
		}
	}
	for row, left := range map[string]int{"": 8, "f@(": 6, "f@(){": 6, "f@(){%=": 5, "f@(){@(": 5, "f@(){*%=": 4, "f@(){{r%;": 4, "f@(){}": 7} {
		o := newOracle()
		for _, token := range []byte(row) {
			o, _ = o.step(token)
		}
		from(row, o, left)
	}
	if right < 100 || wrong < 1000 {
		t.Errorf("only %d were right, %d wrong", right, wrong)
	}
}

// dice tells a row of numbers that is the same each time.
type dice uint32

func (d *dice) below(n int) int {
	*d = *d*1664525 + 1013904223
	return int(*d>>8) % n
}

// grow: a row of tokens out of a form, by the grammar, of some length.
func grow(d *dice, form string, room *int) string {
	var row strings.Builder
	for i := range len(form) {
		forms, ok := grammar[form[i]]
		if !ok {
			row.WriteByte(form[i])
			*room--
			continue
		}
		pick := forms[d.below(len(forms))]
		if forms[0] == "" && *room > 0 && d.below(4) > 0 {
			pick = forms[1+d.below(len(forms)-1)]
		}
		if *room <= 0 {
			pick = forms[0]
		}
		if *room <= 0 && form[i] == 'T' {
			pick = "rV;"
		}
		row.WriteString(grow(d, pick, room))
	}
	return row.String()
}

// P9.1, P9.2, P1: long rows of tokens that are modules, and such rows with some tokens dropped, put in, or put in another's place, by the grammar.
func TestGrammarLong(t *testing.T) {
	d := dice(1)
	right, wrong := 0, 0
	for range 6000 {
		room := 1 + d.below(150)
		row := []byte(grow(&d, "M", &room))
		if d.below(4) > 0 {
			for range 1 + d.below(2) {
				at := d.below(len(row) + 1)
				token := tokens[d.below(len(tokens))]
				switch end := min(at+1, len(row)); d.below(3) {
				case 0:
					row = slices.Insert(row, at, token)
				case 1:
					row = slices.Delete(row, at, end)
				default:
					row = slices.Replace(row, at, end, token)
				}
			}
		}
		gaps := [][]string{{" "}, {"\n", " \t", "/* } */"}, {"// ;\n", "\r\n"}}
		if checkText(t, written(string(row), gaps[d.below(len(gaps))]...)) {
			wrong++
		} else {
			right++
		}
		if t.Failed() {
			return
		}
	}
	if right < 1000 || wrong < 1000 {
		t.Errorf("only %d were right, %d wrong", right, wrong)
	}
}

// P9.2: likewise with many blocks in one another, some too many.
func TestGrammarDeep(t *testing.T) {
	d := dice(2)
	for range 300 {
		row := "f@(){"
		for range 220 {
			row += []string{"{", "{", "{", "{", "r%;", "}", "{}"}[d.below(7)]
		}
		checkText(t, written(row, "", " "))
	}
}

// sampleText has all that the grammar has, and all that a text has beside tokens.
const sampleText = `// all
global $g; entry @"m n";
func @f(%a, %"\x00\"") { var %c; site #h; /* ** */
	%a = &#h; { *%c = %a; $g = *%"\x00\""; } return %c;
}
func @"m n"() { var %r; %r = @f($g, %r); %r($g); @f(%r, $g); %r = &@f; }
`

// P1, P9.2: a text that is cut anywhere, or has any byte put in, or in another's place.
func TestBytesByGrammar(t *testing.T) {
	if checkText(t, sampleText) {
		t.Fatal("the sample isn't right")
	}
	put := []byte("\"\\/*%$@#;=&(),{} \nax9\x00\xff")
	for i := range len(sampleText) {
		checkText(t, sampleText[:i])
		checkText(t, sampleText[i:])
		checkText(t, sampleText[:i]+sampleText[i+1:])
		for _, b := range put {
			checkText(t, sampleText[:i]+string([]byte{b})+sampleText[i:])
			checkText(t, sampleText[:i]+string([]byte{b})+sampleText[i+1:])
		}
		if t.Failed() {
			return
		}
	}
	for a := range 256 {
		checkText(t, string([]byte{byte(a)}))
		for b := range 256 {
			checkText(t, string([]byte{byte(a), byte(b)}))
		}
	}
}

// teller makes a module and the text that tells it, each as it likes, by one row of numbers.
type teller struct {
	d   dice
	m   api.Module
	odd bool // names may be missing, there twice, empty; else no rule is broken
}

// anyNames: some of them are alike but for a byte, or have to stand in quotes.
var anyNames = []string{"a", "b", "A", "func", "var", "a.b", "_", "x9", "a b", "\"", "\\", "\x00", "\xff", "%a", "é", ";", "//", "/*", "z_", "block"}

// text: the number of a string.
func (x *teller) text(s string) int {
	n := slices.Index(x.m.Strings, s)
	if n < 0 {
		n = len(x.m.Strings)
		x.m.Strings = append(x.m.Strings, s)
	}
	return n
}

// some: up to so many names that may be declared beside one another.
func (x *teller) some(most int) []int {
	pool := slices.Clone(anyNames)
	if x.odd {
		pool = append(pool, "")
	}
	var l []int
	for range x.d.below(most + 1) {
		i := x.d.below(len(pool))
		l = append(l, x.text(pool[i]))
		if !x.odd || x.d.below(4) > 0 {
			pool = slices.Delete(pool, i, i+1)
		}
	}
	return l
}

// spell: a name, with its mark, as it may be written.
func (x *teller) spell(mark string, s string) string {
	switch {
	case x.d.below(3) > 0:
		return mark + lex.Quote(s)
	case x.d.below(2) > 0:
		var q strings.Builder
		for i := range len(s) {
			fmt.Fprintf(&q, `\x%02x`, s[i])
		}
		return mark + `"` + q.String() + `"`
	case lex.Bare(s):
		return mark + `"` + s + `"`
	}
	return mark + lex.Quote(s)
}

// declared: one of the names of a list, with its mark.
func (x *teller) declared(mark string, text int) string {
	return x.spell(mark, x.m.Strings[text])
}

// pick: one of what is declared in a list, or what isn't there, by its name: the number, and how it is told.
func (x *teller) pick(mark string, list []int) (int, string) {
	if len(list) == 0 || x.odd && x.d.below(8) == 0 {
		return -1, mark + "nowhere"
	}
	s := list[x.d.below(len(list))]
	return slices.Index(list, s), x.declared(mark, s)
}

// functions: the strings of the functions' names.
func (x *teller) functions() []int {
	var l []int
	for _, f := range x.m.Funcs {
		l = append(l, f.Name)
	}
	return l
}

func (x *teller) variable(f *api.Func) (api.Ref, string) {
	if len(f.Locals) == 0 || len(x.m.Globals) > 0 && x.d.below(2) == 0 {
		n, s := x.pick("$", x.m.Globals)
		return global(n), s
	}
	n, s := x.pick("%", f.Locals)
	return local(n), s
}

func (x *teller) object(f *api.Func) (api.Ref, string) {
	switch {
	case len(f.Sites) > 0 && x.d.below(3) == 0:
		n, s := x.pick("#", f.Sites)
		return site(n), s
	case x.d.below(3) == 0:
		n, s := x.pick("@", x.functions())
		return fun(n), s
	}
	return x.variable(f)
}

// call: of a function, or of a variable, with arguments; its A is none.
func (x *teller) call(f *api.Func) (api.Stmt, []string) {
	s := api.Stmt{Kind: api.Call}
	many := x.d.below(7)
	var name string
	if x.d.below(2) == 0 {
		s.B.Kind = api.Fun
		s.B.ID, name = x.pick("@", x.functions())
		if s.B.ID >= 0 && !(x.odd && x.d.below(4) == 0) {
			many = x.m.Funcs[s.B.ID].Params
		}
	} else {
		s.B, name = x.variable(f)
	}
	told := []string{name, "("}
	for i := range many {
		r, v := x.variable(f)
		s.Args = append(s.Args, r)
		if i > 0 {
			told = append(told, ",")
		}
		told = append(told, v)
	}
	return s, append(told, ")")
}

// statement: of any kind, in so many blocks; how it is told, token by token.
func (x *teller) statement(f *api.Func, deep int) (api.Stmt, []string) {
	a, as := x.variable(f)
	b, bs := x.variable(f)
	switch kind := x.d.below(9); kind {
	case 0:
		b, bs = x.object(f)
		return api.Stmt{Kind: api.Take, A: a, B: b}, []string{as, "=", "&", bs, ";"}
	case 1:
		return api.Stmt{Kind: api.Move, A: a, B: b}, []string{as, "=", bs, ";"}
	case 2:
		return api.Stmt{Kind: api.Load, A: a, B: b}, []string{as, "=", "*", bs, ";"}
	case 3:
		return api.Stmt{Kind: api.Store, A: a, B: b}, []string{"*", as, "=", bs, ";"}
	case 4, 5:
		s, told := x.call(f)
		if kind == 4 {
			s.A = a
			told = append([]string{as, "="}, told...)
		}
		return s, append(told, ";")
	case 6:
		return api.Stmt{Kind: api.Return, B: b}, []string{"return", bs, ";"}
	}
	if deep == api.MaxDeep {
		return api.Stmt{Kind: api.Return, B: b}, []string{"return", bs, ";"}
	}
	l, told := x.body(f, deep+1)
	return block(l...), slices.Concat([]string{"{"}, told, []string{"}"})
}

// body: some statements of a function, in so many blocks.
func (x *teller) body(f *api.Func, deep int) ([]api.Stmt, []string) {
	var l []api.Stmt
	var told []string
	if !x.odd && len(f.Locals)+len(x.m.Globals) == 0 {
		// There is no variable that a statement could have.
		return nil, nil
	}
	for range x.d.below(8) {
		s, more := x.statement(f, deep)
		l = append(l, s)
		told = append(told, more...)
	}
	return l, told
}

// between: the parts of two lists, as they stand in each, but in any order of the lists.
func (x *teller) between(a, b [][]string) [][]string {
	var l [][]string
	for len(a)+len(b) > 0 {
		if len(b) == 0 || len(a) > 0 && x.d.below(2) == 0 {
			l, a = append(l, a[0]), a[1:]
		} else {
			l, b = append(l, b[0]), b[1:]
		}
	}
	return l
}

// head: a function's name, parameters, vars and sites, as they are told.
func (x *teller) head(f *api.Func) []string {
	told := []string{"func", x.declared("@", f.Name), "("}
	for i, n := range f.Locals[:f.Params] {
		if i > 0 {
			told = append(told, ",")
		}
		told = append(told, x.declared("%", n))
	}
	told = append(told, ")", "{")
	var vars, sites [][]string
	for _, n := range f.Locals[f.Params:] {
		vars = append(vars, []string{"var", x.declared("%", n), ";"})
	}
	for _, n := range f.Sites {
		sites = append(sites, []string{"site", x.declared("#", n), ";"})
	}
	return append(told, slices.Concat(x.between(vars, sites)...)...)
}

// tell makes a module: the text that tells it.
func (x *teller) tell() string {
	x.m.Globals = x.some(5)
	for _, n := range x.some(4) {
		f := api.Func{Name: n, Locals: x.some(8), Sites: x.some(3)}
		f.Params = x.d.below(min(len(f.Locals), api.MaxArgs) + 1)
		x.m.Funcs = append(x.m.Funcs, f)
	}
	var globals, entries, functions [][]string
	for _, n := range x.m.Globals {
		globals = append(globals, []string{"global", x.declared("$", n), ";"})
	}
	for range x.d.below(4) {
		n, name := x.pick("@", x.functions())
		if x.odd || n >= 0 && !slices.Contains(x.m.Entries, n) {
			x.m.Entries = append(x.m.Entries, n)
			entries = append(entries, []string{"entry", name, ";"})
		}
	}
	for i := range x.m.Funcs {
		f := &x.m.Funcs[i]
		l, told := x.body(f, 0)
		f.Body = l
		functions = append(functions, slices.Concat(x.head(f), told, []string{"}"}))
	}
	var s strings.Builder
	gaps := []string{"", " ", "\n", "\t\r\n  ", "// } ;\n", "/* func \n ** */"}
	for _, k := range slices.Concat(x.between(x.between(globals, entries), functions)...) {
		s.WriteString(k + gaps[x.d.below(len(gaps))])
	}
	return s.String()
}

// P9.1, P9.2, P9.3, P4: the module that a text tells is just that one, however it is told; and one that breaks no rule is read so that it breaks none.
func TestTold(t *testing.T) {
	for i := range 2000 {
		x := &teller{d: dice(i)}
		s := x.tell()
		if y := rule.Tree(x.m); y != fine {
			t.Fatalf("%s breaks a rule: %+v", short(x.m), y)
		}
		checkTree(t, s, sorted(x.m))
		want, _ := canon.Of(x.m)
		got, y := Module([]byte(s))
		if y != fine || !module.Equal(got, want) {
			t.Errorf("Module %s: %s, %+v, want %s", short(s), short(got), y, short(want))
		}
		if y := rule.Check(got); y != fine {
			t.Errorf("Module %s: Check of it: %+v", short(s), y)
		}
		if t.Failed() {
			return
		}
	}
}

// P9.2, P9.3: likewise of modules that may break rules: Tree tells them, Module tells the first rule that they break.
func TestToldOdd(t *testing.T) {
	rules := map[int]int{}
	for i := range 2000 {
		x := &teller{d: dice(i), odd: true}
		s := x.tell()
		checkTree(t, s, sorted(x.m))
		want, fault := canon.Of(x.m)
		got, y := Module([]byte(s))
		if y != fault || !module.Equal(got, want) {
			t.Errorf("Module %s: %s, %+v, want %+v", short(s), short(got), y, fault)
		}
		rules[y.Rule]++
		if t.Failed() {
			return
		}
	}
	for _, r := range []int{0, rule.Names, rule.Twice, rule.Entry, rule.Refs, rule.Arity} {
		if rules[r] < 10 {
			t.Errorf("rule %d: only %d", r, rules[r])
		}
	}
}

// P9.3: canon.Of's faults, by hand; a fault of the text is told ahead of them.
func TestModuleFaults(t *testing.T) {
	list := func(many int, each string) string {
		var s strings.Builder
		for i := range many {
			s.WriteString(strings.ReplaceAll(each, "?", fmt.Sprint("n", i)))
		}
		return s.String()
	}
	long := strings.Repeat("a", 40)
	open, shut := strings.Repeat("{", 8), strings.Repeat("}", 8)
	for s, want := range map[string]api.Fault{
		`global $"";`:                                     broken(rule.Names, -1, -1),
		"global $" + long + "a;":                          broken(rule.Names, -1, -1),
		"global $" + long + ";":                           fine,
		`func @""() { }`:                                  broken(rule.Names, -1, -1),
		`func @f(%"") { }`:                                broken(rule.Names, 0, -1),
		`func @f() { site #""; }`:                         broken(rule.Names, 0, -1),
		list(40, "global $?;"):                            fine,
		list(41, "global $?;"):                            broken(rule.Many, -1, -1),
		list(40, "func @?() { }"):                         fine,
		list(41, "func @?() { }"):                         broken(rule.Many, -1, -1),
		list(41, "entry @f;"):                             broken(rule.Many, -1, -1),
		"global $a; global $a;":                           broken(rule.Twice, -1, -1),
		"func @f() { } func @f() { }":                     broken(rule.Twice, -1, -1),
		"entry @f; entry @f; func @f() { }":               broken(rule.Twice, -1, -1),
		"func @f() { } func @g(%a) { var %a; }":           broken(rule.Twice, 1, -1),
		"func @f() { site #a; site #a; }":                 broken(rule.Twice, 0, -1),
		"entry @f;":                                       broken(rule.Entry, -1, -1),
		"entry @f; func @g() { }":                         broken(rule.Entry, -1, -1),
		"func @f(%a, %b, %c, %d, %e, %f) { }":             fine,
		"func @f(%a, %b, %c, %d, %e, %f, %g) { }":         broken(rule.Params, 0, -1),
		"func @f() { " + list(40, "var %?;") + "}":        fine,
		"func @f() { " + list(41, "var %?;") + "}":        broken(rule.Many, 0, -1),
		"func @f() { " + list(41, "site #?;") + "}":       broken(rule.Many, 0, -1),
		"func @f() { " + list(400, "@f();") + "}":         fine,
		"func @f() { " + list(401, "@f();") + "}":         broken(rule.Many, 0, -1),
		"func @f() {" + open + "@f();" + shut + "}":       fine,
		"func @f() {" + open + "{}" + shut + "}":          fine,
		"func @f() {" + open + "{@f();}" + shut + "}":     broken(rule.Deep, 0, 9),
		"func @f() { return %a; }":                        broken(rule.Refs, 0, 0),
		"func @f() { @f(); { @f(); @g(); } }":             broken(rule.Refs, 0, 3),
		"func @f() { } func @g(%a) { %a = &#h; }":         broken(rule.Refs, 1, 0),
		"func @f(%a) { @f(); }":                           broken(rule.Arity, 0, 0),
		"func @f(%a) { @f(%a, %a); }":                     broken(rule.Arity, 0, 0),
		"func @f(%a) { %a(%a, %a, %a, %a, %a, %a); }":     fine,
		"func @f(%a) { %a(%a, %a, %a, %a, %a, %a, %a); }": broken(rule.Arity, 0, 0),
	} {
		m, x := Module([]byte(s))
		if x != want || x != fine && !reflect.DeepEqual(m, api.Module{}) {
			t.Errorf("Module %s: %s, %+v, want %+v", short(s), short(m), x, want)
		}
		if _, x := Tree([]byte(s)); x != fine {
			t.Errorf("Tree %s: %+v", short(s), x)
		}
		checkFault(t, s+" global", len(s)+7)
	}
}

// P9.3: its strings are those of canon.Of: sorted, each once, and used.
func TestModuleByHand(t *testing.T) {
	m, x := Module([]byte("global $z; func @b(%z, %a) { site #b; %a = $z; } entry @b;"))
	want := api.Module{
		Strings: []string{"a", "b", "z"},
		Globals: []int{2},
		Funcs: []api.Func{{Name: 1, Params: 2, Locals: []int{2, 0}, Sites: []int{1}, Body: []api.Stmt{
			{Kind: api.Move, A: local(1), B: global(0)},
		}}},
		Entries: []int{0},
	}
	if x != fine || !module.Equal(m, want) {
		t.Errorf("%+v, %+v", m, x)
	}
}

// Memory: what is handed in isn't changed, and what was made of it stays when that is written over.
func TestMemory(t *testing.T) {
	for name, call := range map[string]func([]byte) (api.Module, api.Fault){"Tree": Tree, "Module": Module} {
		p := append(make([]byte, 0, 2*len(sampleText)), sampleText...)
		m, _ := call(p)
		first := module.Copy(m)
		for i := range first.Strings {
			first.Strings[i] = strings.Clone(first.Strings[i])
		}
		if string(p) != sampleText || slices.ContainsFunc(p[len(p):cap(p)], func(b byte) bool { return b != 0 }) {
			t.Errorf("%s: what was handed in is %q", name, p[:cap(p)])
		}
		for i := range p {
			p[i] = 'z'
		}
		if !module.Equal(m, first) {
			t.Errorf("%s: what was handed in was written over, and the answer is %s", name, short(m))
		}
	}
}

// Memory: no two lists of an answer share any: each may be appended to, and written over.
func TestListsApart(t *testing.T) {
	m, _ := Tree([]byte(`entry @f; global $g; global $k;
		func @f(%a, %b) { var %c; site #h; site #k; @f(%a, %b); { @f(%b, %a); { return %a; } } @f($g, $k); }
		func @g(%d) { site #l; return %d; }`))
	var lists [][]int
	var bodies [][]api.Stmt
	var args [][]api.Ref
	lists = append(lists, m.Globals, m.Entries)
	for _, f := range m.Funcs {
		lists = append(lists, f.Locals, f.Sites)
		bodies = append(bodies, f.Body)
	}
	inner := m.Funcs[0].Body[1].Body
	bodies = append(bodies, inner, inner[1].Body)
	for _, s := range []api.Stmt{m.Funcs[0].Body[0], m.Funcs[0].Body[2], inner[0]} {
		args = append(args, s.Args)
	}
	for i, l := range lists {
		for j := range l[:cap(l)] {
			l[:cap(l)][j] = 1000 + i
		}
	}
	for i, l := range args {
		for j := range l[:cap(l)] {
			l[:cap(l)][j] = local(1000 + i)
		}
	}
	for i, l := range bodies {
		for j := range l[:cap(l)] {
			l[:cap(l)][j] = api.Stmt{Kind: byte(100 + i)}
		}
	}
	for i, l := range lists {
		if slices.ContainsFunc(l, func(n int) bool { return n != 1000+i }) {
			t.Errorf("list %d is %v", i, l)
		}
	}
	for i, l := range args {
		if slices.ContainsFunc(l, func(r api.Ref) bool { return r != local(1000+i) }) {
			t.Errorf("arguments %d are %v", i, l)
		}
	}
	for i, l := range bodies {
		if slices.ContainsFunc(l, func(s api.Stmt) bool { return s.Kind != byte(100+i) }) {
			t.Errorf("body %d is %v", i, l)
		}
	}
}

// P2: the same is answered again, whatever was asked in between.
func TestSameAgain(t *testing.T) {
	first, x := Tree([]byte(sampleText))
	second, y := Module([]byte(sampleText))
	if x != fine || y != fine {
		t.Fatalf("%+v, %+v", x, y)
	}
	for _, s := range []string{"", "global $a;", "global", "?", "func @f() {" + strings.Repeat("{", 101), sampleText} {
		Tree([]byte(s))
		Module([]byte(s))
		if again, z := Tree([]byte(sampleText)); z != x || !reflect.DeepEqual(again, first) {
			t.Errorf("behind %s another answer of Tree: %s", short(s), short(again))
		}
		if again, z := Module([]byte(sampleText)); z != y || !reflect.DeepEqual(again, second) {
			t.Errorf("behind %s another answer of Module: %s", short(s), short(again))
		}
	}
}

// P1: long texts end, too: of many parts, many statements, long lists, long names, and of what is no module.
func TestLongTexts(t *testing.T) {
	const n = 100000
	m, x := Tree([]byte(strings.Repeat("global $a; entry @b; func @b(%a) { { *%a = $c; } } ", n) + "global $c;"))
	if x != fine || len(m.Globals) != n+1 || len(m.Entries) != n || len(m.Funcs) != n || !slices.Equal(slices.Sorted(slices.Values(m.Strings)), []string{"a", "b", "c"}) {
		t.Errorf("many parts: %+v, %s", x, short(m))
	}
	want := []api.Stmt{block(api.Stmt{Kind: api.Store, A: local(0), B: global(n)})}
	if x == fine && !module.SameBody(m.Funcs[n-1].Body, want) {
		t.Errorf("many parts: %s", short(m.Funcs[n-1]))
	}
	row := strings.Repeat("%a, ", n)
	m, x = Tree([]byte("func @f(" + row + "%b) { @f(" + row + "%b); }"))
	if x != fine || m.Funcs[0].Params != n+1 || len(m.Funcs[0].Body[0].Args) != n+1 || m.Funcs[0].Body[0].Args[n] != local(n) {
		t.Errorf("long lists: %+v", x)
	}
	name := strings.Repeat("ab", n)
	if m, x = Tree([]byte(`global $"` + name + `";`)); x != fine || m.Strings[0] != name {
		t.Errorf("a long name: %+v", x)
	}
	for _, s := range []string{"{", "(", "func ", "global $a; ", "func @f() ", ", ", "}"} {
		checkFault(t, "x"+strings.Repeat(s, n), 0)
		checkFault(t, strings.Repeat(s, n)+"?", n*len(s))
	}
	many := strings.Repeat("@f(); ", n)
	checkFault(t, "func @f() {"+many, 11+len(many))
}
