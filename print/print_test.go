package print

import (
	"fmt"
	"math"
	"reflect"
	"slices"
	"strconv"
	"strings"
	"testing"

	"weathervane/api"
	"weathervane/canon"
	"weathervane/lex"
	"weathervane/module"
	"weathervane/parse"
	"weathervane/rule"
)

func local(n int) api.Ref  { return api.Ref{Kind: api.Local, ID: n} }
func global(n int) api.Ref { return api.Ref{Kind: api.Global, ID: n} }
func fun(n int) api.Ref    { return api.Ref{Kind: api.Fun, ID: n} }
func site(n int) api.Ref   { return api.Ref{Kind: api.Site, ID: n} }

func block(l ...api.Stmt) api.Stmt { return api.Stmt{Kind: api.Block, Body: l} }

func stmt(kind byte, a, b api.Ref, args ...api.Ref) api.Stmt {
	return api.Stmt{Kind: kind, A: a, B: b, Args: args}
}

var fine = api.Fault{Func: -1, Stmt: -1}

func broken(r, fn, st int) api.Fault {
	return api.Fault{Err: api.ErrRule, Rule: r, Func: fn, Stmt: st}
}

// short: a text, or a module, as a failing test tells it; all of it is ASCII, whatever the names are.
func short(x any) string {
	s := strconv.QuoteToASCII(fmt.Sprintf("%+v", x))
	return s[:min(len(s), 1500)]
}

// upTo: 0, 1, .. so many.
func upTo(n int) []int {
	var l []int
	for i := range n {
		l = append(l, i)
	}
	return l
}

// checkText: the module's text is this one, and it is read as what canon.Of makes of the module (P10.2).
func checkText(t *testing.T, m api.Module, want string) {
	t.Helper()
	p, x := Text(m)
	if x != fine || string(p) != want {
		t.Errorf("Text of %s: %+v, %s, want %s", short(m), x, short(string(p)), short(want))
	}
	checkRead(t, m)
}

// checkRead: the module's text is read as what canon.Of makes of the module.
func checkRead(t *testing.T, m api.Module) {
	t.Helper()
	p, x := Text(m)
	c, y := canon.Of(m)
	back, z := parse.Module(p)
	if x != fine || y != fine || z != fine || !module.Equal(back, c) {
		t.Errorf("Text of %s: %+v; read: %+v, %s", short(m), x, z, short(back))
	}
}

// checkFault: the module has no text, but this fault, which is Tree's too.
func checkFault(t *testing.T, what string, m api.Module, want api.Fault) {
	t.Helper()
	if p, x := Text(m); x != want || p != nil {
		t.Errorf("%s: %+v beside %q, want %+v", what, x, p, want)
	}
	if x := rule.Tree(m); x != want {
		t.Errorf("%s: Tree tells %+v, want %+v", what, x, want)
	}
}

// sample is a module with all that a text may tell, made anew each time; its strings are in no order, one is there twice, and one isn't used.
func sample() api.Module {
	return api.Module{
		Strings: []string{"g", "f", "a", "b c", "x", "h", "main", "g", "unused"},
		Globals: []int{7, 3},
		Funcs: []api.Func{
			{Name: 1, Params: 2, Locals: []int{2, 3, 4, 0}, Sites: []int{5, 1}, Body: []api.Stmt{
				stmt(api.Take, local(2), site(0)),
				block(
					stmt(api.Store, local(0), local(1)),
					block(),
					block(stmt(api.Load, global(1), local(3)), block(stmt(api.Move, local(1), global(0)))),
					stmt(api.Call, local(2), fun(0), local(0), global(0)),
				),
				stmt(api.Call, api.Ref{}, fun(1)),
				stmt(api.Return, api.Ref{}, local(0)),
			}},
			{Name: 6, Body: []api.Stmt{stmt(api.Call, global(0), global(1), global(1), global(0), global(0))}},
			{Name: 3, Sites: []int{3}},
			{Name: 2, Locals: []int{2}},
		},
		Entries: []int{1, 0},
	}
}

const sampleText = `global $g;
global $"b c";
entry @main;
entry @f;
func @f(%a, %"b c") {
  var %x;
  var %g;
  site #h;
  site #f;
  %x = &#h;
  {
    *%a = %"b c";
    {
    }
    {
      $"b c" = *%g;
      {
        %"b c" = $g;
      }
    }
    %x = @f(%a, $g);
  }
  @main();
  return %a;
}
func @main() {
  $g = $"b c"($"b c", $g, $g);
}
func @"b c"() {
  site #"b c";
}
func @a() {
  var %a;
}
`

func with(change func(m *api.Module)) api.Module {
	m := sample()
	change(&m)
	return m
}

// P10.1: a module with all that a text may tell.
func TestByHand(t *testing.T) {
	checkText(t, sample(), sampleText)
	checkText(t, api.Module{Strings: []string{"g"}, Globals: []int{0}}, "global $g;\n")
	checkText(t, api.Module{
		Strings: []string{"f"}, Funcs: []api.Func{{Name: 0}}, Entries: []int{0},
	}, "entry @f;\nfunc @f() {\n}\n")
}

// P10.1, P10.2: of nothing a text without a line.
func TestEmpty(t *testing.T) {
	checkText(t, api.Module{}, "")
	checkText(t, api.Module{Strings: []string{}, Globals: []int{}, Funcs: []api.Func{}, Entries: []int{}}, "")
	checkText(t, api.Module{Strings: []string{"not used"}}, "")
	checkText(t, api.Module{
		Strings: []string{"f"}, Funcs: []api.Func{{Locals: []int{}, Sites: []int{}, Body: []api.Stmt{}}},
	}, "func @f() {\n}\n")
}

// P10.1: every form that a statement has, with each mark that may stand in it, in the function and in a block.
func TestStatements(t *testing.T) {
	p, v, g, k, f, h := local(0), local(1), global(0), global(1), fun(0), site(0)
	none := api.Ref{}
	for _, c := range []struct {
		s    api.Stmt
		want string
	}{
		{stmt(api.Take, p, v), "%p = &%v;"},
		{stmt(api.Take, p, g), "%p = &$g;"},
		{stmt(api.Take, p, f), "%p = &@f;"},
		{stmt(api.Take, p, h), "%p = &#h;"},
		{stmt(api.Take, g, v), "$g = &%v;"},
		{stmt(api.Take, g, k), "$g = &$k;"},
		{stmt(api.Take, g, f), "$g = &@f;"},
		{stmt(api.Take, g, h), "$g = &#h;"},
		{stmt(api.Move, p, v), "%p = %v;"},
		{stmt(api.Move, p, g), "%p = $g;"},
		{stmt(api.Move, k, v), "$k = %v;"},
		{stmt(api.Move, k, g), "$k = $g;"},
		{stmt(api.Load, p, v), "%p = *%v;"},
		{stmt(api.Load, p, g), "%p = *$g;"},
		{stmt(api.Load, k, v), "$k = *%v;"},
		{stmt(api.Load, k, g), "$k = *$g;"},
		{stmt(api.Store, p, v), "*%p = %v;"},
		{stmt(api.Store, p, g), "*%p = $g;"},
		{stmt(api.Store, k, v), "*$k = %v;"},
		{stmt(api.Store, k, g), "*$k = $g;"},
		{stmt(api.Return, none, v), "return %v;"},
		{stmt(api.Return, none, k), "return $k;"},
		{stmt(api.Call, none, f, p), "@f(%p);"},
		{stmt(api.Call, none, f, k), "@f($k);"},
		{stmt(api.Call, p, f, v), "%p = @f(%v);"},
		{stmt(api.Call, g, f, k), "$g = @f($k);"},
		{stmt(api.Call, none, fun(1)), "@e();"},
		{stmt(api.Call, g, fun(1)), "$g = @e();"},
		{stmt(api.Call, none, v), "%v();"},
		{stmt(api.Call, none, k), "$k();"},
		{stmt(api.Call, none, v, p, g), "%v(%p, $g);"},
		{stmt(api.Call, none, k, g, g), "$k($g, $g);"},
		{stmt(api.Call, p, v), "%p = %v();"},
		{stmt(api.Call, p, g, v, v, p), "%p = $g(%v, %v, %p);"},
		{stmt(api.Call, g, v, k), "$g = %v($k);"},
		{stmt(api.Call, k, g, g, k, v, p, k, g), "$k = $g($g, $k, %v, %p, $k, $g);"},
		{stmt(api.Call, v, v, []api.Ref{}...), "%v = %v();"},
	} {
		m := api.Module{
			Strings: []string{"e", "f", "g", "h", "k", "p", "v"},
			Globals: []int{2, 4},
			Funcs: []api.Func{
				{Name: 1, Params: 1, Locals: []int{5, 6}, Sites: []int{3}, Body: []api.Stmt{c.s, block(c.s, c.s), c.s}},
				{Name: 0},
			},
		}
		checkText(t, m, "global $g;\nglobal $k;\nfunc @f(%p) {\n  var %v;\n  site #h;\n"+
			"  "+c.want+"\n  {\n    "+c.want+"\n    "+c.want+"\n  }\n  "+c.want+"\n}\nfunc @e() {\n}\n")
	}
}

// P10.1: the parameters are the first locals; the others are vars, ahead of the sites.
func TestHeads(t *testing.T) {
	all := upTo(7)
	for params, want := range []string{
		"func @a() {\n  var %a;\n  var %b;\n  var %c;\n  var %d;\n  var %e;\n  var %f;\n",
		"func @a(%a) {\n  var %b;\n  var %c;\n  var %d;\n  var %e;\n  var %f;\n",
		"func @a(%a, %b) {\n  var %c;\n  var %d;\n  var %e;\n  var %f;\n",
		"func @a(%a, %b, %c) {\n  var %d;\n  var %e;\n  var %f;\n",
		"func @a(%a, %b, %c, %d) {\n  var %e;\n  var %f;\n",
		"func @a(%a, %b, %c, %d, %e) {\n  var %f;\n",
		"func @a(%a, %b, %c, %d, %e, %f) {\n",
	} {
		m := api.Module{
			Strings: []string{"a", "b", "c", "d", "e", "f", "g"},
			Funcs:   []api.Func{{Params: params, Locals: all[:6]}},
		}
		checkText(t, m, want+"}\n")
		m.Funcs[0].Sites = []int{6, 0}
		checkText(t, m, want+"  site #g;\n  site #a;\n}\n")
	}
}

// P10.1: what is there is told in its own order, whatever that of the strings is; what a name is is told by its mark.
func TestOrder(t *testing.T) {
	checkText(t, api.Module{
		Strings: []string{"a", "b", "c"},
		Globals: []int{2, 0, 1},
		Funcs: []api.Func{
			{Name: 1, Locals: []int{1, 0, 2}, Sites: []int{0, 2, 1}, Body: []api.Stmt{
				stmt(api.Take, local(0), local(1)),
				stmt(api.Take, local(0), global(1)),
				stmt(api.Take, local(0), fun(1)),
				stmt(api.Take, local(0), site(1)),
			}},
			{Name: 2, Locals: []int{0}, Body: []api.Stmt{stmt(api.Move, local(0), global(0))}},
			{Name: 0},
		},
		Entries: []int{2, 0, 1},
	}, `global $c;
global $a;
global $b;
entry @a;
entry @b;
entry @c;
func @b() {
  var %b;
  var %a;
  var %c;
  site #a;
  site #c;
  site #b;
  %b = &%a;
  %b = &$a;
  %b = &@c;
  %b = &#c;
}
func @c() {
  var %a;
  %a = $c;
}
func @a() {
}
`)
}

// P10.1: two blanks ahead for each function and block, as deep as blocks may be.
func TestDeep(t *testing.T) {
	body := []api.Stmt{stmt(api.Return, api.Ref{}, local(0))}
	for range api.MaxDeep {
		body = []api.Stmt{block(body...)}
	}
	m := api.Module{Strings: []string{"f"}, Funcs: []api.Func{{Params: 1, Locals: []int{0}, Body: body}}}
	want := "func @f(%f) {\n"
	for deep := range api.MaxDeep {
		want += strings.Repeat("  ", 1+deep) + "{\n"
	}
	want += strings.Repeat("  ", 1+api.MaxDeep) + "return %f;\n"
	for deep := api.MaxDeep - 1; deep >= 0; deep-- {
		want += strings.Repeat("  ", 1+deep) + "}\n"
	}
	checkText(t, m, want+"}\n")
	m.Funcs[0].Body = []api.Stmt{block(m.Funcs[0].Body...)}
	checkFault(t, "one block more", m, broken(rule.Deep, 0, api.MaxDeep+1))
}

// everywhere: a module in which all is named by this string, and its text, in which the name is written so.
func everywhere(s, written string) (api.Module, string) {
	m := api.Module{
		Strings: []string{s, "v"},
		Globals: []int{0},
		Funcs: []api.Func{
			{Params: 1, Locals: []int{0, 1}, Sites: []int{0}, Body: []api.Stmt{
				stmt(api.Take, local(0), site(0)),
				stmt(api.Take, global(0), fun(0)),
				stmt(api.Store, local(0), global(0)),
				stmt(api.Call, local(0), fun(0), local(0)),
				stmt(api.Call, api.Ref{}, global(0), local(0), global(0)),
				stmt(api.Return, api.Ref{}, local(0)),
			}},
			{Name: 1, Locals: []int{0}},
		},
		Entries: []int{0},
	}
	return m, strings.ReplaceAll(`global $?;
entry @?;
func @?(%?) {
  var %v;
  site #?;
  %? = &#?;
  $? = &@?;
  *%? = $?;
  %? = @?(%?);
  $?(%?, $?);
  return %?;
}
func @v() {
  var %?;
}
`, "?", written)
}

// P10.1: names bare or in quotes, in every place.
func TestNames(t *testing.T) {
	for s, written := range map[string]string{
		"a":                           "a",
		"_":                           "_",
		"aZ_.9":                       "aZ_.9",
		"global":                      "global",
		"entry":                       "entry",
		"func":                        "func",
		"var":                         "var",
		"site":                        "site",
		"return":                      "return",
		"a b":                         `"a b"`,
		" ":                           `" "`,
		"9":                           `"9"`,
		".a":                          `".a"`,
		"a-b":                         `"a-b"`,
		"%a":                          `"%a"`,
		"//":                          `"//"`,
		"/*":                          `"/*"`,
		";\n}":                        `";\x0a}"`,
		`"`:                           `"\""`,
		`\`:                           `"\\"`,
		`\x41`:                        `"\\x41"`,
		"\x00\x1f\x7f\xff":            `"\x00\x1f\x7f\xff"`,
		"é":                           `"\xc3\xa9"`,
		strings.Repeat("a", 40):       strings.Repeat("a", 40),
		strings.Repeat("\xab", 40):    `"` + strings.Repeat(`\xab`, 40) + `"`,
		strings.Repeat(`"`, 39) + " ": `"` + strings.Repeat(`\"`, 39) + ` "`,
	} {
		m, want := everywhere(s, written)
		checkText(t, m, want)
	}
	for i := range 256 {
		for _, s := range []string{string([]byte{byte(i)}), string([]byte{'a', byte(i)}), string([]byte{byte(i), 'a'})} {
			m, want := everywhere(s, lex.Quote(s))
			if s != "v" {
				checkText(t, m, want)
			}
			if t.Failed() {
				return
			}
		}
	}
}

// P10.1: the strings may be in any order, there twice, and not used: that is Check's rule, not Tree's.
func TestStrings(t *testing.T) {
	if x := rule.Check(sample()); x != broken(rule.Strings, -1, -1) {
		t.Fatalf("the sample: %+v", x)
	}
	c, _ := canon.Of(sample())
	checkText(t, c, sampleText)
	for range len(c.Strings) {
		// The same names by other numbers.
		m := sample()
		m.Strings = append(m.Strings[1:], m.Strings[0])
		turn := func(l []int) {
			for i, n := range l {
				l[i] = (n + len(m.Strings) - 1) % len(m.Strings)
			}
		}
		turn(m.Globals)
		for i := range m.Funcs {
			f := &m.Funcs[i]
			f.Name = (f.Name + len(m.Strings) - 1) % len(m.Strings)
			turn(f.Locals)
			turn(f.Sites)
		}
		checkText(t, m, sampleText)
	}
}

// P10.1: Tree's faults, each with its place, and nothing beside them.
func TestFaults(t *testing.T) {
	put := func(fn, at int, s api.Stmt) api.Module {
		return with(func(m *api.Module) { m.Funcs[fn].Body[at] = s })
	}
	for what, c := range map[string]struct {
		m    api.Module
		want api.Fault
	}{
		"an entry of nothing":        {api.Module{Entries: []int{0}}, broken(rule.Entry, -1, -1)},
		"a name of no string":        {api.Module{Globals: []int{0}}, broken(rule.Names, -1, -1)},
		"a name below 0":             {with(func(m *api.Module) { m.Globals[1] = -1 }), broken(rule.Names, -1, -1)},
		"a name beyond the strings":  {with(func(m *api.Module) { m.Funcs[1].Name = 9 }), broken(rule.Names, -1, -1)},
		"a far local":                {with(func(m *api.Module) { m.Funcs[0].Locals[1] = math.MaxInt }), broken(rule.Names, 0, -1)},
		"a far site":                 {with(func(m *api.Module) { m.Funcs[2].Sites[0] = math.MinInt }), broken(rule.Names, 2, -1)},
		"an empty name":              {with(func(m *api.Module) { m.Strings[5] = "" }), broken(rule.Names, 0, -1)},
		"a name of 41 bytes":         {with(func(m *api.Module) { m.Strings[5] = strings.Repeat("h", 41) }), broken(rule.Names, 0, -1)},
		"a global twice":             {with(func(m *api.Module) { m.Globals[1] = 0 }), broken(rule.Twice, -1, -1)},
		"a function twice":           {with(func(m *api.Module) { m.Funcs[2].Name = 6 }), broken(rule.Twice, -1, -1)},
		"a local twice":              {with(func(m *api.Module) { m.Funcs[0].Locals[2] = 7 }), broken(rule.Twice, 0, -1)},
		"many globals":               {with(func(m *api.Module) { m.Globals = make([]int, 41) }), broken(rule.Many, -1, -1)},
		"many statements":            {with(func(m *api.Module) { m.Funcs[1].Body = make([]api.Stmt, 401) }), broken(rule.Many, 1, -1)},
		"parameters that aren't":     {with(func(m *api.Module) { m.Funcs[3].Params = 2 }), broken(rule.Params, 3, -1)},
		"parameters below 0":         {with(func(m *api.Module) { m.Funcs[3].Params = -1 }), broken(rule.Params, 3, -1)},
		"an entry that isn't there":  {with(func(m *api.Module) { m.Entries[0] = 4 }), broken(rule.Entry, -1, -1)},
		"an entry twice":             {with(func(m *api.Module) { m.Entries[0] = 0 }), broken(rule.Twice, -1, -1)},
		"no kind":                    {put(0, 0, api.Stmt{}), broken(rule.Kinds, 0, 0)},
		"a kind beyond":              {put(1, 0, api.Stmt{Kind: api.Block + 1}), broken(rule.Kinds, 1, 0)},
		"a site as a variable":       {put(0, 2, stmt(api.Return, api.Ref{}, site(0))), broken(rule.Kinds, 0, 9)},
		"a Move with a body":         {put(0, 0, api.Stmt{Kind: api.Move, A: local(0), B: local(1), Body: []api.Stmt{block()}}), broken(rule.Kinds, 0, 0)},
		"a local that isn't there":   {put(1, 0, stmt(api.Move, global(0), local(0))), broken(rule.Refs, 1, 0)},
		"a site that isn't there":    {put(0, 0, stmt(api.Take, local(0), site(2))), broken(rule.Refs, 0, 0)},
		"a far global":               {put(0, 0, stmt(api.Move, local(0), global(math.MaxInt))), broken(rule.Refs, 0, 0)},
		"a function below 0":         {put(0, 0, stmt(api.Call, local(0), fun(-1))), broken(rule.Refs, 0, 0)},
		"an argument that's missing": {put(0, 3, stmt(api.Call, api.Ref{}, fun(0), global(0))), broken(rule.Arity, 0, 10)},
		"an argument too many":       {put(0, 2, stmt(api.Call, api.Ref{}, fun(1), global(0))), broken(rule.Arity, 0, 9)},
		"seven arguments":            {put(1, 0, stmt(api.Call, api.Ref{}, global(0), slices.Repeat([]api.Ref{global(1)}, 7)...)), broken(rule.Arity, 1, 0)},
	} {
		checkFault(t, what, c.m, c.want)
	}
}

// P1: bodies that hold themselves have no text, and the call ends.
func TestEndlessBodies(t *testing.T) {
	once := []api.Stmt{block()}
	once[0].Body = once
	twice := []api.Stmt{block(), block()}
	twice[0].Body, twice[1].Body = twice, twice
	odd := []api.Stmt{stmt(api.Move, global(0), global(0))}
	odd[0].Body = odd
	for _, body := range [][]api.Stmt{once, twice} {
		checkFault(t, "itself", with(func(m *api.Module) { m.Funcs[1].Body = body }), broken(rule.Many, 1, -1))
	}
	checkFault(t, "a Move in itself", with(func(m *api.Module) { m.Funcs[1].Body = odd }), broken(rule.Kinds, 1, 0))
}

// P10.1, P10.2: a module that is as great as the rules let it be.
func TestBounds(t *testing.T) {
	var m api.Module
	for i := range 40 {
		m.Strings = append(m.Strings, strings.Repeat("\xff", 38)+fmt.Sprint(49-i))
	}
	all := upTo(40)
	m.Globals, m.Entries = all, all
	l := []api.Stmt{stmt(api.Call, local(39), local(0), local(0), local(1), local(2), global(0), global(38), global(39))}
	body := slices.Repeat(l, 392)
	for range 8 {
		body = []api.Stmt{block(body...)}
	}
	for i := range 40 {
		m.Funcs = append(m.Funcs, api.Func{Name: i, Params: 6, Locals: all, Sites: all, Body: body})
	}
	checkRead(t, m)
	p, _ := Text(m)
	want := 40 + 40 + 40*(2+34+40+392+2*8)
	if n := strings.Count(string(p), "\n"); n != want {
		t.Errorf("%d lines, want %d", n, want)
	}
	name := func(n int) string { return `"` + strings.Repeat(`\xff`, 38) + fmt.Sprint(49-n) + `"` }
	call := fmt.Sprintf("\n%s%%%s = %%%s(%%%s, %%%s, %%%s, $%s, $%s, $%s);\n", strings.Repeat("  ", 9),
		name(39), name(0), name(0), name(1), name(2), name(0), name(38), name(39))
	if !strings.Contains(string(p), call) {
		t.Errorf("no line %+q", call)
	}
}

// dice tells a row of numbers that is the same each time.
type dice uint32

func (d *dice) below(n int) int {
	*d = *d*1664525 + 1013904223
	return int(*d>>8) % n
}

// maker makes a module that breaks no rule, and its lines as it goes, by one row of numbers.
type maker struct {
	d     dice
	m     api.Module
	lines []string
}

// anyNames: some of them are alike but for a byte, or have to stand in quotes.
var anyNames = []string{"a", "b", "A", "func", "var", "a.b", "_", "x9", "a b", "\"", "\\", "\x00", "\xff", "%a", "é", ";", "//", "/*", "z_", "9"}

// number: a string's number; one that is there may come once more.
func (x *maker) number(s string) int {
	n := slices.Index(x.m.Strings, s)
	if n < 0 || x.d.below(4) == 0 {
		n = len(x.m.Strings)
		x.m.Strings = append(x.m.Strings, s)
	}
	return n
}

// some: up to so many names that may be declared beside one another.
func (x *maker) some(most int) []int {
	pool := slices.Clone(anyNames)
	var l []int
	for range x.d.below(most + 1) {
		i := x.d.below(len(pool))
		l = append(l, x.number(pool[i]))
		pool = slices.Delete(pool, i, i+1)
	}
	return l
}

func (x *maker) tell(deep int, parts ...string) {
	x.lines = append(x.lines, strings.Repeat("  ", deep)+strings.Join(parts, "")+"\n")
}

// named: the names of a list, with a mark.
func (x *maker) named(mark string, list []int) []string {
	var l []string
	for _, n := range list {
		l = append(l, mark+lex.Quote(x.m.Strings[n]))
	}
	return l
}

// pick: one of a list, as a reference of this kind, and as it is told; there must be one.
func (x *maker) pick(kind byte, mark string, list []int) (api.Ref, string) {
	n := x.d.below(len(list))
	return api.Ref{Kind: kind, ID: n}, x.named(mark, list)[n]
}

// functions: the numbers of the functions' names.
func (x *maker) functions() []int {
	var l []int
	for _, f := range x.m.Funcs {
		l = append(l, f.Name)
	}
	return l
}

func (x *maker) variable(f *api.Func) (api.Ref, string) {
	if len(f.Locals) == 0 || len(x.m.Globals) > 0 && x.d.below(2) == 0 {
		return x.pick(api.Global, "$", x.m.Globals)
	}
	return x.pick(api.Local, "%", f.Locals)
}

func (x *maker) object(f *api.Func) (api.Ref, string) {
	switch {
	case len(f.Sites) > 0 && x.d.below(3) == 0:
		return x.pick(api.Site, "#", f.Sites)
	case x.d.below(3) == 0:
		return x.pick(api.Fun, "@", x.functions())
	}
	return x.variable(f)
}

// call: of a function, or of a variable, with arguments; its A is none.
func (x *maker) call(f *api.Func) (api.Stmt, string) {
	s := api.Stmt{Kind: api.Call}
	many := x.d.below(7)
	var name string
	if x.d.below(2) == 0 {
		s.B, name = x.pick(api.Fun, "@", x.functions())
		many = x.m.Funcs[s.B.ID].Params
	} else {
		s.B, name = x.variable(f)
	}
	var args []string
	for range many {
		r, v := x.variable(f)
		s.Args = append(s.Args, r)
		args = append(args, v)
	}
	return s, name + "(" + strings.Join(args, ", ") + ")"
}

// statement makes one of any kind, in so many blocks, and tells it.
func (x *maker) statement(f *api.Func, deep int) api.Stmt {
	a, as := x.variable(f)
	b, bs := x.variable(f)
	at := 1 + deep
	kind := x.d.below(9)
	if kind >= 7 && deep == api.MaxDeep {
		kind = 6
	}
	switch kind {
	case 0:
		b, bs = x.object(f)
		x.tell(at, as, " = &", bs, ";")
		return stmt(api.Take, a, b)
	case 1:
		x.tell(at, as, " = ", bs, ";")
		return stmt(api.Move, a, b)
	case 2:
		x.tell(at, as, " = *", bs, ";")
		return stmt(api.Load, a, b)
	case 3:
		x.tell(at, "*", as, " = ", bs, ";")
		return stmt(api.Store, a, b)
	case 4:
		s, told := x.call(f)
		x.tell(at, told, ";")
		return s
	case 5:
		s, told := x.call(f)
		s.A = a
		x.tell(at, as, " = ", told, ";")
		return s
	case 6:
		x.tell(at, "return ", bs, ";")
		return stmt(api.Return, api.Ref{}, b)
	}
	x.tell(at, "{")
	s := block(x.body(f, deep+1)...)
	x.tell(at, "}")
	return s
}

func (x *maker) body(f *api.Func, deep int) []api.Stmt {
	var l []api.Stmt
	if len(f.Locals)+len(x.m.Globals) > 0 {
		for range x.d.below(8) {
			l = append(l, x.statement(f, deep))
		}
	}
	return l
}

// make makes a module: its text.
func (x *maker) make() string {
	x.m.Globals = x.some(5)
	for _, n := range x.some(5) {
		f := api.Func{Name: n, Locals: x.some(9), Sites: x.some(3)}
		f.Params = x.d.below(min(len(f.Locals), api.MaxArgs) + 1)
		x.m.Funcs = append(x.m.Funcs, f)
	}
	for n := range x.m.Funcs {
		if x.d.below(3) == 0 {
			x.m.Entries = slices.Insert(x.m.Entries, x.d.below(len(x.m.Entries)+1), n)
		}
	}
	for _, s := range x.named("$", x.m.Globals) {
		x.tell(0, "global ", s, ";")
	}
	names := x.named("@", x.functions())
	for _, n := range x.m.Entries {
		x.tell(0, "entry ", names[n], ";")
	}
	for i := range x.m.Funcs {
		f := &x.m.Funcs[i]
		locals := x.named("%", f.Locals)
		x.tell(0, "func ", names[i], "(", strings.Join(locals[:f.Params], ", "), ") {")
		for _, s := range locals[f.Params:] {
			x.tell(1, "var ", s, ";")
		}
		for _, s := range x.named("#", f.Sites) {
			x.tell(1, "site ", s, ";")
		}
		f.Body = x.body(f, 0)
		x.tell(0, "}")
	}
	return strings.Join(x.lines, "")
}

// P10.1, P10.2, P3: the text of a module is as it was made beside it, and is read as what canon.Of makes of the module.
func TestMade(t *testing.T) {
	long := 0
	for i := range 3000 {
		x := &maker{d: dice(i)}
		want := x.make()
		if y := rule.Tree(x.m); y != fine {
			if y.Rule == rule.Many {
				continue
			}
			t.Fatalf("%s breaks a rule: %+v", short(x.m), y)
		}
		checkText(t, x.m, want)
		if len(x.lines) > 60 {
			long++
		}
		if t.Failed() {
			return
		}
	}
	if long < 100 {
		t.Errorf("only %d were long", long)
	}
}

// P4: what a text is read as is just that: it is told by a text that is read as the same, however the first one was laid out.
func TestReadAgain(t *testing.T) {
	gaps := []string{"", " ", "\n", "\t\r\n  ", "// } ;\n", "/* func \n ** */"}
	for i := range 1000 {
		x := &maker{d: dice(i)}
		s := x.make()
		if x.d.below(2) == 0 {
			s = relaid(s, func() string { return gaps[x.d.below(len(gaps))] })
		}
		m, y := parse.Module([]byte(s))
		if y.Rule == rule.Many {
			continue
		}
		p, z := Text(m)
		again, w := parse.Module(p)
		if y != fine || z != fine || w != fine || !module.Equal(again, m) {
			t.Fatalf("%s: %+v; %+v, %s; %+v", short(s), y, z, short(string(p)), w)
		}
		if want := strings.Join(x.lines, ""); string(p) != want {
			t.Fatalf("%s: %s, want %s", short(s), short(string(p)), short(want))
		}
	}
}

// relaid: the same tokens, with other gaps between.
func relaid(s string, gap func() string) string {
	var l strings.Builder
	x := lex.New([]byte(s))
	for {
		switch t, _, _ := x.Next(); t.Kind {
		case lex.End:
			return l.String()
		case lex.Word:
			l.WriteString(t.Text + " " + gap())
		case lex.Name:
			l.WriteString(string(t.Mark) + lex.Quote(t.Text) + gap())
		default:
			l.WriteString(t.Text + gap())
		}
	}
}

// P1, P10.1: modules with anything in them: what Tree lets has a text, which is read as it is; all else has Tree's fault.
func TestAnything(t *testing.T) {
	d := dice(1)
	refs := []api.Ref{{}, {ID: 1}, local(-1), local(99), global(99), fun(-5), site(math.MaxInt), {Kind: 9}}
	for i := range 5 {
		refs = append(refs, local(i), global(i), fun(i), site(i))
	}
	one := func() api.Ref { return refs[d.below(len(refs))] }
	right := 0
	for range 20000 {
		m := sample()
		for i := range m.Funcs {
			f := &m.Funcs[i]
			if d.below(8) == 0 {
				f.Params = d.below(5) - 1
			}
			for range d.below(2) {
				s := stmt(byte(d.below(9)), one(), one())
				for range d.below(3) {
					s.Args = append(s.Args, one())
				}
				f.Body = append(f.Body, block(s), s)
			}
		}
		m.Entries[d.below(2)] = d.below(6) - 1
		x := rule.Tree(m)
		if x != fine {
			checkFault(t, "anything", m, x)
		} else {
			right++
			checkRead(t, m)
		}
		if t.Failed() {
			return
		}
	}
	if right < 100 {
		t.Errorf("only %d were right", right)
	}
}

// P2, Memory: the same is answered again, whatever was asked in between; what was handed in isn't changed, and what was answered may be appended to.
func TestSameAgain(t *testing.T) {
	m := sample()
	first, _ := Text(m)
	for _, other := range []api.Module{{}, {Entries: []int{0}}, {Strings: []string{"g"}, Globals: []int{0}}, sample()} {
		p, _ := Text(other)
		p = append(p[:len(p):cap(p)], "more"...)
		for i := range p {
			p[i] = 'z'
		}
		if q, x := Text(m); x != fine || string(q) != sampleText {
			t.Errorf("behind %s: %+v, %s", short(other), x, short(string(q)))
		}
	}
	if string(first) != sampleText {
		t.Errorf("the first answer has become %s", short(string(first)))
	}
	if !reflect.DeepEqual(m, sample()) {
		t.Errorf("what was handed in has changed: %s", short(m))
	}
}
