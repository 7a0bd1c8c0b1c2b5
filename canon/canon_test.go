package canon

import (
	"fmt"
	"math"
	"reflect"
	"slices"
	"strconv"
	"strings"
	"testing"
	"unsafe"

	"weathervane/api"
	"weathervane/module"
	"weathervane/rule"
)

func local(n int) api.Ref  { return api.Ref{Kind: api.Local, ID: n} }
func global(n int) api.Ref { return api.Ref{Kind: api.Global, ID: n} }
func fun(n int) api.Ref    { return api.Ref{Kind: api.Fun, ID: n} }
func site(n int) api.Ref   { return api.Ref{Kind: api.Site, ID: n} }

func block(l ...api.Stmt) api.Stmt { return api.Stmt{Kind: api.Block, Body: l} }

// sample is a module that breaks no rule, Check's neither, made anew each time: it has names that stand in several lists, and some that stand in one alone.
func sample() api.Module {
	return api.Module{
		Strings: []string{"a", "b", "f", "g", "h"},
		Globals: []int{3, 0},
		Funcs: []api.Func{
			{Name: 2, Params: 2, Locals: []int{1, 0, 2}, Sites: []int{4, 1}, Body: []api.Stmt{
				{Kind: api.Take, A: local(2), B: site(1)},
				block(
					api.Stmt{Kind: api.Call, A: local(1), B: fun(0), Args: []api.Ref{local(0), global(1)}},
					block(api.Stmt{Kind: api.Store, A: local(1), B: global(0)}),
					block(),
				),
				{Kind: api.Return, B: local(2)},
			}},
			{Name: 0, Sites: []int{0, 1, 4}, Body: []api.Stmt{
				{Kind: api.Take, A: global(1), B: fun(1)},
				{Kind: api.Load, A: global(0), B: global(1)},
			}},
		},
		Entries: []int{1, 0},
	}
}

// bounds is a module that is as great as the rules let it be.
func bounds() api.Module {
	l := []string{}
	for i := range 40 {
		l = append(l, strings.Repeat("x", 38)+strconv.Itoa(10+i))
	}
	all := upTo(40)
	m := api.Module{Strings: l, Globals: all, Entries: all}
	body := slices.Repeat([]api.Stmt{{Kind: api.Move, A: local(39), B: local(0)}}, 392)
	for range 8 {
		body = []api.Stmt{block(body...)}
	}
	for i := range 40 {
		m.Funcs = append(m.Funcs, api.Func{Name: i, Params: 6, Locals: all, Sites: all, Body: body})
	}
	return m
}

// upTo: 0, 1, .. so many.
func upTo(n int) []int {
	var l []int
	for i := range n {
		l = append(l, i)
	}
	return l
}

// names: all that m names, list by list, each name's place in m; so a test may change them.
func names(m *api.Module) []*int {
	var l []*int
	each := func(list []int) {
		for i := range list {
			l = append(l, &list[i])
		}
	}
	each(m.Globals)
	for i := range m.Funcs {
		f := &m.Funcs[i]
		l = append(l, &f.Name)
		each(f.Locals)
		each(f.Sites)
	}
	return l
}

// spelled: a module that says what m says, by these strings, in which m's are; where one is there more than once, each use of it goes by the next one.
func spelled(t *testing.T, m api.Module, list []string) api.Module {
	t.Helper()
	c := module.Copy(m)
	c.Strings = list
	next := map[string]int{}
	for _, n := range names(&c) {
		s := m.Strings[*n]
		var places []int
		for i, x := range list {
			if x == s {
				places = append(places, i)
			}
		}
		if len(places) == 0 {
			t.Fatalf("%q isn't in %q", s, list)
		}
		*n = places[next[s]%len(places)]
		next[s]++
	}
	return c
}

// orders: these strings in every order.
func orders(l []string) [][]string {
	if len(l) == 0 {
		return [][]string{nil}
	}
	var all [][]string
	for i, first := range l {
		for _, rest := range orders(slices.Concat(l[:i], l[i+1:])) {
			all = append(all, append([]string{first}, rest...))
		}
	}
	return all
}

// short: a module as a failing test tells it.
func short(m api.Module) string {
	s := fmt.Sprintf("%+v", m)
	return s[:min(len(s), 300)]
}

var fine = api.Fault{Func: -1, Stmt: -1}

// checkOf: Of(m) is this, and none of the rules is broken by it.
func checkOf(t *testing.T, what string, m, want api.Module) {
	t.Helper()
	c, x := Of(m)
	if x != fine || !module.Equal(c, want) {
		t.Errorf("%s: %s, %v, want %s", what, short(c), x, short(want))
	}
	if x := rule.Check(c); x != fine {
		t.Errorf("%s: Check of it: %v", what, x)
	}
}

// checkFault: Of(m) is this fault, with nothing beside it; and it is Tree's.
func checkFault(t *testing.T, what string, m api.Module, want api.Fault) {
	t.Helper()
	c, x := Of(m)
	if x != want || !reflect.DeepEqual(c, api.Module{}) {
		t.Errorf("%s: %s beside %v, want %v", what, short(c), x, want)
	}
	if tree := rule.Tree(m); x != tree {
		t.Errorf("%s: %v, Tree %v", what, x, tree)
	}
}

func broken(r, fn, stmt int) api.Fault {
	return api.Fault{Err: api.ErrRule, Rule: r, Func: fn, Stmt: stmt}
}

// P7.1: a module that breaks no rule stays as it is.
func TestOfRight(t *testing.T) {
	empty := api.Module{Strings: []string{}, Globals: []int{}, Funcs: []api.Func{}, Entries: []int{}}
	bare := api.Module{Strings: []string{"f"}, Funcs: []api.Func{{Locals: []int{}, Sites: []int{}, Body: []api.Stmt{}}}}
	for _, m := range []api.Module{{}, empty, bare, sample(), bounds()} {
		if x := rule.Check(m); x != fine {
			t.Fatalf("%s: Check %v", short(m), x)
		}
		checkOf(t, "a module that breaks no rule", m, m)
	}
}

// P7.1: the strings that are used, sorted, each once; the numbers that come to each, written out.
func TestOfByHand(t *testing.T) {
	m := api.Module{
		Strings: []string{"z", "b", "?", "a", "b", "", "z"},
		Globals: []int{0, 3},
		Funcs: []api.Func{
			{Name: 4, Params: 1, Locals: []int{1, 6}, Sites: []int{3, 4}},
			{Name: 6, Locals: []int{3}, Sites: []int{0}},
		},
		Entries: []int{1},
	}
	checkOf(t, "by hand", m, api.Module{
		Strings: []string{"a", "b", "z"},
		Globals: []int{2, 0},
		Funcs: []api.Func{
			{Name: 1, Params: 1, Locals: []int{1, 2}, Sites: []int{0, 1}},
			{Name: 2, Locals: []int{0}, Sites: []int{2}},
		},
		Entries: []int{1},
	})
}

// P7.1: in whatever order the strings stand, it is one module.
func TestOfAnyOrder(t *testing.T) {
	for _, l := range orders(sample().Strings) {
		checkOf(t, strings.Join(l, " "), spelled(t, sample(), l), sample())
	}
}

// P7.1: strings that are there more than once become one; those that aren't used go, wherever they stand, and whatever they are.
func TestOfStringsTwiceOrNotUsed(t *testing.T) {
	more := append(slices.Clone(sample().Strings), "", " ", "A", "aa", "c", "z", "\xff", strings.Repeat("x", 41), strings.Repeat("y", 100000))
	for _, s := range more {
		for at := range len(sample().Strings) + 1 {
			l := slices.Insert(slices.Clone(sample().Strings), at, s)
			checkOf(t, strconv.Quote(s)+" put in", spelled(t, sample(), l), sample())
			l = slices.Insert(l, at, s)
			slices.Reverse(l)
			checkOf(t, strconv.Quote(s)+" put in twice, turned", spelled(t, sample(), l), sample())
		}
	}
	l := slices.Repeat(sample().Strings, 20)
	checkOf(t, "all of them, many times", spelled(t, sample(), l), sample())
	checkOf(t, "strings without a name", api.Module{Strings: []string{"b", "a", ""}}, api.Module{})
}

// P7.1: a string stays for each of the lists in which it may be named, and for no other number.
func TestOfUsedByEachList(t *testing.T) {
	list := []string{"z", "y"}
	want := []string{"y", "z"}
	for what, c := range map[string]struct {
		m, want api.Module
	}{
		"globals": {
			api.Module{Strings: list, Globals: []int{0, 1}},
			api.Module{Strings: want, Globals: []int{1, 0}},
		},
		"functions": {
			api.Module{Strings: list, Funcs: []api.Func{{Name: 0}, {Name: 1}}},
			api.Module{Strings: want, Funcs: []api.Func{{Name: 1}, {Name: 0}}},
		},
		"locals": {
			api.Module{Strings: list, Funcs: []api.Func{{Name: 0, Locals: []int{1}}}},
			api.Module{Strings: want, Funcs: []api.Func{{Name: 1, Locals: []int{0}}}},
		},
		"sites": {
			api.Module{Strings: list, Funcs: []api.Func{{Name: 0, Sites: []int{1}}}},
			api.Module{Strings: want, Funcs: []api.Func{{Name: 1, Sites: []int{0}}}},
		},
		"entries, references": {
			api.Module{Strings: list, Entries: []int{0}, Funcs: []api.Func{{Name: 1, Body: []api.Stmt{{Kind: api.Call, B: fun(0)}}}}},
			api.Module{Strings: want[:1], Entries: []int{0}, Funcs: []api.Func{{Name: 0, Body: []api.Stmt{{Kind: api.Call, B: fun(0)}}}}},
		},
	} {
		checkOf(t, what, c.m, c.want)
	}
}

// P7.1: sorted byte by byte, as Check asks.
func TestOfSortsByBytes(t *testing.T) {
	want := []string{"\x00", "\x00\x00", " ", "A", "B", "_", "a", "a\x00", "aa", "ab", "b", "é", "ü", "\xff", "\xff\xff"}
	turned := slices.Clone(want)
	slices.Reverse(turned)
	m := api.Module{Strings: turned, Globals: upTo(len(turned))}
	globals := upTo(len(turned))
	slices.Reverse(globals)
	checkOf(t, "by bytes", m, api.Module{Strings: want, Globals: globals})
}

// P7.1: all else is as it was: the order of names, of functions, parameters, entries, and each statement, by whatever numbers it names something.
func TestOfElse(t *testing.T) {
	for _, of := range []api.Module{sample(), bounds()} {
		l := slices.Clone(of.Strings)
		slices.Reverse(l)
		m := spelled(t, of, append([]string{"?"}, l...))
		c, x := Of(m)
		if x != fine || len(c.Funcs) != len(m.Funcs) || !slices.Equal(c.Entries, m.Entries) {
			t.Fatalf("%v: %d functions, entries %v", x, len(c.Funcs), c.Entries)
		}
		for i, f := range m.Funcs {
			if c.Funcs[i].Params != f.Params || !module.SameBody(c.Funcs[i].Body, f.Body) {
				t.Errorf("function %d isn't as it was", i)
			}
		}
		was, is := names(&m), names(&c)
		if len(was) != len(is) {
			t.Fatalf("%d names, want %d", len(is), len(was))
		}
		for i := range was {
			if module.String(m, *was[i]) != module.String(c, *is[i]) {
				t.Errorf("name %d: %q, want %q", i, module.String(c, *is[i]), module.String(m, *was[i]))
			}
		}
		checkOf(t, "reversed", m, of)
	}
}

// P7.1: what Of answers is the one way to say it: of that it answers the same.
func TestOfTwice(t *testing.T) {
	for _, l := range [][]string{{"h", "g", "f", "b", "a"}, {"a", "b", "f", "g", "h"}, {"b", "a", "", "h", "g", "b", "f"}} {
		first, _ := Of(spelled(t, sample(), l))
		checkOf(t, "of what it answered", first, first)
	}
}

// with: the sample, changed.
func with(change func(m *api.Module)) api.Module {
	m := sample()
	change(&m)
	return m
}

// put: the sample, with another statement in a body's place.
func put(fn, at int, s api.Stmt) api.Module {
	return with(func(m *api.Module) { m.Funcs[fn].Body[at] = s })
}

// P7.1: Tree's faults, each with its place, and nothing beside them.
func TestOfFaults(t *testing.T) {
	deep := block()
	for range 8 {
		deep = block(deep)
	}
	for what, c := range map[string]struct {
		m    api.Module
		want api.Fault
	}{
		"a name of no string":       {api.Module{Globals: []int{0}}, broken(rule.Names, -1, -1)},
		"a name below 0":            {with(func(m *api.Module) { m.Globals[1] = -1 }), broken(rule.Names, -1, -1)},
		"a name beyond the strings": {with(func(m *api.Module) { m.Funcs[1].Name = 5 }), broken(rule.Names, -1, -1)},
		"a far local":               {with(func(m *api.Module) { m.Funcs[0].Locals[1] = math.MaxInt }), broken(rule.Names, 0, -1)},
		"a far site":                {with(func(m *api.Module) { m.Funcs[1].Sites[2] = math.MinInt }), broken(rule.Names, 1, -1)},
		"an empty name":             {with(func(m *api.Module) { m.Strings[3] = "" }), broken(rule.Names, -1, -1)},
		"a name of 41 bytes":        {with(func(m *api.Module) { m.Strings[4] = strings.Repeat("h", 41) }), broken(rule.Names, 0, -1)},
		"a global twice":            {with(func(m *api.Module) { m.Globals[1] = 3 }), broken(rule.Twice, -1, -1)},
		"a site twice, by the bytes": {with(func(m *api.Module) {
			m.Strings = append(m.Strings, "b")
			m.Funcs[1].Sites[0] = 5
		}), broken(rule.Twice, 1, -1)},
		"many globals":               {with(func(m *api.Module) { m.Globals = make([]int, 41) }), broken(rule.Many, -1, -1)},
		"many statements":            {with(func(m *api.Module) { m.Funcs[1].Body = make([]api.Stmt, 401) }), broken(rule.Many, 1, -1)},
		"parameters that aren't":     {with(func(m *api.Module) { m.Funcs[1].Params = 1 }), broken(rule.Params, 1, -1)},
		"an entry that isn't there":  {with(func(m *api.Module) { m.Entries[0] = 2 }), broken(rule.Entry, -1, -1)},
		"an entry twice":             {with(func(m *api.Module) { m.Entries[0] = 0 }), broken(rule.Twice, -1, -1)},
		"nine blocks":                {put(0, 2, block(deep)), broken(rule.Deep, 0, 6+9)},
		"a site as a variable":       {put(0, 2, api.Stmt{Kind: api.Return, B: site(0)}), broken(rule.Kinds, 0, 6)},
		"a local that isn't there":   {put(1, 0, api.Stmt{Kind: api.Move, A: global(0), B: local(0)}), broken(rule.Refs, 1, 0)},
		"an argument that's missing": {put(1, 1, api.Stmt{Kind: api.Call, B: fun(0), Args: []api.Ref{global(0)}}), broken(rule.Arity, 1, 1)},
	} {
		checkFault(t, what, c.m, c.want)
	}
	checkOf(t, "eight blocks", put(0, 2, deep), put(0, 2, deep))
}

// P1: bodies that hold themselves are refused, and the call ends.
func TestOfEndlessBodies(t *testing.T) {
	once := []api.Stmt{block()}
	once[0].Body = once
	twice := []api.Stmt{block(), block()}
	twice[0].Body, twice[1].Body = twice, twice
	odd := []api.Stmt{{Kind: api.Move, A: global(0), B: global(0)}}
	odd[0].Body = odd
	for _, body := range [][]api.Stmt{once, twice} {
		checkFault(t, "itself", with(func(m *api.Module) { m.Funcs[1].Body = body }), broken(rule.Many, 1, -1))
	}
	checkFault(t, "a Move in itself", with(func(m *api.Module) { m.Funcs[1].Body = odd }), broken(rule.Kinds, 1, 0))
}

// P1: modules with any names and entries in them: Of answers as Tree does, and of what is right the strings by which all is named.
func TestOfAnything(t *testing.T) {
	seed := uint32(1)
	pick := func(n int) int { // a row of numbers that is the same each time
		seed = seed*1664525 + 1013904223
		return int(seed>>8) % n
	}
	right := 0
	for range 20000 {
		m := sample()
		m.Strings = []string{"c", "b", "", "a", "c", "\xff", "d", "e", "f"}
		for _, n := range names(&m) {
			*n = pick(10) - pick(2)*pick(2)*pick(2)
		}
		x := rule.Tree(m)
		if x != fine {
			checkFault(t, "anything", m, x)
			continue
		}
		right++
		c, _ := Of(m)
		was, is := names(&m), names(&c)
		for i := range was {
			if module.String(m, *was[i]) != module.String(c, *is[i]) {
				t.Fatalf("%v: %v", m, c)
			}
		}
		checkOf(t, "anything", m, c)
		if t.Failed() {
			return
		}
	}
	if right < 100 {
		t.Errorf("only %d were right", right)
	}
}

// writeOver writes over everything that a module's lists hold, up to what they have room for.
func writeOver(m api.Module) {
	fill := func(l []int) {
		l = l[:cap(l)]
		for i := range l {
			l[i] = -99
		}
	}
	list := m.Strings[:cap(m.Strings)]
	for i := range list {
		list[i] = "written over"
	}
	fill(m.Globals)
	fill(m.Entries)
	for i, f := range m.Funcs {
		fill(f.Locals)
		fill(f.Sites)
		writeOverBody(f.Body)
		m.Funcs[i] = api.Func{Name: -99}
	}
}

func writeOverBody(body []api.Stmt) {
	for _, s := range body {
		args := s.Args[:cap(s.Args)]
		for i := range args {
			args[i] = api.Ref{Kind: 99}
		}
		writeOverBody(s.Body)
	}
	body = body[:cap(body)]
	for i := range body {
		body[i] = api.Stmt{Kind: 99}
	}
}

// Memory: what is handed in isn't changed, and what is answered shares no memory with it.
func TestOfHasItsOwnMemory(t *testing.T) {
	for _, l := range [][]string{sample().Strings, {"h", "g", "", "f", "b", "a", "b"}} {
		m := spelled(t, sample(), slices.Clone(l))
		c, _ := Of(m)
		if !reflect.DeepEqual(m, spelled(t, sample(), l)) {
			t.Errorf("what was handed in is %v", m)
		}
		writeOver(c)
		if !reflect.DeepEqual(m, spelled(t, sample(), l)) {
			t.Error("an answer was written over, and what was handed in with it")
		}
		c, _ = Of(m)
		writeOver(m)
		if !module.Equal(c, sample()) {
			t.Error("what was handed in was written over, and the answer with it")
		}
	}
}

// Memory: nor do its strings have their bytes there.
func TestOfHasItsOwnBytes(t *testing.T) {
	text := "hgfba"
	m := spelled(t, sample(), []string{text[:1], text[1:2], text[2:3], text[3:4], text[4:]})
	c, _ := Of(m)
	first := uintptr(unsafe.Pointer(unsafe.StringData(text)))
	for _, s := range c.Strings {
		at := uintptr(unsafe.Pointer(unsafe.StringData(s)))
		if at >= first && at < first+uintptr(len(text)) {
			t.Errorf("%q is a part of what was handed in", s)
		}
	}
}

// Memory: lists that are one where they are handed in are renamed each by itself, and none of an answer is another one.
func TestOfSharedLists(t *testing.T) {
	shared := []int{2, 1, 0}
	body := []api.Stmt{{Kind: api.Move, A: local(0), B: local(1)}, block()}
	f := api.Func{Name: 2, Locals: shared, Sites: shared[:2], Body: body}
	g := f
	g.Name, g.Sites = 1, shared[1:]
	m := api.Module{Strings: []string{"c", "b", "a"}, Globals: shared[:2], Funcs: []api.Func{f, g}}
	want := api.Module{Strings: []string{"a", "b", "c"}, Globals: []int{0, 1}, Funcs: []api.Func{
		{Name: 0, Locals: []int{0, 1, 2}, Sites: []int{0, 1}, Body: body},
		{Name: 1, Locals: []int{0, 1, 2}, Sites: []int{1, 2}, Body: body},
	}}
	checkOf(t, "shared lists", m, want)
	c, _ := Of(m)
	_ = append(c.Globals, 9)
	c.Globals[0], c.Funcs[0].Sites[0], c.Funcs[1].Locals[2], c.Funcs[1].Sites[0] = 9, 8, 7, 6
	c.Funcs[0].Body[0].Kind = api.Load
	if !slices.Equal(c.Funcs[0].Locals, []int{0, 1, 2}) || !slices.Equal(c.Funcs[1].Locals, []int{0, 1, 7}) || c.Funcs[1].Body[0].Kind != api.Move {
		t.Errorf("two lists of an answer are one: %v", c)
	}
	if !slices.Equal(shared, []int{2, 1, 0}) {
		t.Errorf("what was handed in is %v", shared)
	}
}

// P2: the same is answered again, whatever was asked in between.
func TestOfSameAgain(t *testing.T) {
	m := spelled(t, bounds(), append([]string{"?"}, slices.Repeat(bounds().Strings, 3)...))
	first, x := Of(m)
	for range 5 {
		Of(sample())
		if again, y := Of(m); !reflect.DeepEqual(again, first) || y != x {
			t.Error("another answer")
		}
	}
}

func checkAdd(t *testing.T, x *Table, s string, want int) {
	t.Helper()
	if got := x.Add(s); got != want {
		t.Errorf("Add %q: %d, want %d", s, got, want)
	}
}

func checkAll(t *testing.T, x *Table, want ...string) {
	t.Helper()
	if got := x.All(); !slices.Equal(got, want) {
		t.Errorf("All: %q, want %q", got, want)
	}
}

// P7.2: strings, each once, by numbers from 0 on, in the order in which they came.
func TestTable(t *testing.T) {
	var x Table
	checkAll(t, &x)
	for i, s := range []string{"b", "a", "", "B", "\xff", "b ", "é", "\x00", "bb"} {
		checkAdd(t, &x, s, i)
		checkAdd(t, &x, s, i)
	}
	checkAdd(t, &x, "b", 0)
	checkAdd(t, &x, "", 2)
	checkAll(t, &x, "b", "a", "", "B", "\xff", "b ", "é", "\x00", "bb")
	checkAdd(t, &x, "c", 9)
	checkAdd(t, &x, "bb", 8)
	checkAll(t, &x, "b", "a", "", "B", "\xff", "b ", "é", "\x00", "bb", "c")
}

// P7.2: its zero value is empty, however it came to be; the empty string is a string.
func TestTableEmpty(t *testing.T) {
	for _, x := range []*Table{{}, new(Table)} {
		checkAll(t, x)
		checkAdd(t, x, "", 0)
		checkAdd(t, x, "", 0)
		checkAll(t, x, "")
	}
}

// P7.2: many strings.
func TestTableOfMany(t *testing.T) {
	var x Table
	var want []string
	for i := range 30000 {
		s := strconv.Itoa(i * 7919 % 30011)
		checkAdd(t, &x, s, i)
		checkAdd(t, &x, strconv.Itoa(i/2*7919%30011), i/2)
		want = append(want, s)
	}
	checkAll(t, &x, want...)
}

// P7.2: of a nil one All is none; P1: Add doesn't panic.
func TestTableNil(t *testing.T) {
	var x *Table
	x.Add("a")
	if l := x.All(); len(l) != 0 {
		t.Errorf("All of a nil one: %q", l)
	}
}

// Memory, P2: what All answers is a list of its own: it may be appended to and written over, and the table stays; what the table is told later isn't in it.
func TestTableAllIsNew(t *testing.T) {
	for n := 1; n < 20; n++ {
		var x Table
		var want []string
		for i := range n {
			want = append(want, strconv.Itoa(i))
			checkAdd(t, &x, want[i], i)
		}
		l := x.All()
		longer := append(l, "mine")
		checkAdd(t, &x, "more", n)
		checkAll(t, &x, append(want, "more")...)
		if !slices.Equal(l, want) || longer[n] != "mine" {
			t.Errorf("what was answered is %q, and then %q", l, longer)
		}
		l[0] = "written over"
		checkAll(t, &x, append(want, "more")...)
		checkAdd(t, &x, "0", 0)
		checkAdd(t, &x, "written over", n+1)
	}
}

// P2: two tables know nothing of each other.
func TestTablesApart(t *testing.T) {
	var x, y Table
	checkAdd(t, &x, "a", 0)
	checkAdd(t, &y, "b", 0)
	checkAdd(t, &x, "b", 1)
	checkAdd(t, &y, "a", 1)
	checkAll(t, &x, "a", "b")
	checkAll(t, &y, "b", "a")
}
