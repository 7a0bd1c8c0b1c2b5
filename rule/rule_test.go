package rule

import (
	"math"
	"reflect"
	"slices"
	"strconv"
	"strings"
	"testing"

	"weathervane/api"
	"weathervane/module"
)

func local(n int) api.Ref  { return api.Ref{Kind: api.Local, ID: n} }
func global(n int) api.Ref { return api.Ref{Kind: api.Global, ID: n} }
func fun(n int) api.Ref    { return api.Ref{Kind: api.Fun, ID: n} }
func site(n int) api.Ref   { return api.Ref{Kind: api.Site, ID: n} }

func block(l ...api.Stmt) api.Stmt { return api.Stmt{Kind: api.Block, Body: l} }

// sample is a module that breaks no rule, with something of each kind, made anew each time.
func sample() api.Module {
	return api.Module{
		Strings: []string{"a", "b", "c", "f", "g", "h", "m", "s"},
		Globals: []int{4, 5},
		Funcs: []api.Func{
			{Name: 3, Params: 2, Locals: []int{0, 1, 2}, Sites: []int{7}, Body: []api.Stmt{
				{Kind: api.Take, A: local(0), B: site(0)},
				block(
					api.Stmt{Kind: api.Call, A: local(2), B: fun(0), Args: []api.Ref{local(0), global(1)}},
					block(api.Stmt{Kind: api.Store, A: local(1), B: global(0)}),
					block(),
				),
				{Kind: api.Call, B: fun(1)},
				{Kind: api.Return, B: local(2)},
			}},
			{Name: 6, Locals: []int{0}, Sites: []int{0, 1, 2, 7}, Body: []api.Stmt{
				{Kind: api.Move, A: local(0), B: global(1)},
				{Kind: api.Load, A: global(0), B: local(0)},
				{Kind: api.Call, A: local(0), B: local(0), Args: []api.Ref{local(0)}},
			}},
		},
		Entries: []int{1, 0},
	}
}

// with: the sample, changed.
func with(change func(m *api.Module)) api.Module {
	m := sample()
	change(&m)
	return m
}

// alone: the sample, its first function having just these statements.
func alone(l ...api.Stmt) api.Module {
	return with(func(m *api.Module) { m.Funcs[0].Body = l })
}

// broken is the fault of a rule; of 0 the one that says that none is broken.
func broken(r, fn, stmt int) api.Fault {
	x := api.Fault{Rule: r, Func: fn, Stmt: stmt}
	if r != 0 {
		x.Err = api.ErrRule
	}
	return x
}

var fine = broken(0, -1, -1)

// checkTree: Tree tells that, and where a rule of Tree's is broken Check tells the same.
func checkTree(t *testing.T, what string, m api.Module, want api.Fault) {
	t.Helper()
	if got := Tree(m); got != want {
		t.Errorf("%s: Tree %v, want %v", what, got, want)
	}
	if got := Check(m); want != fine && got != want {
		t.Errorf("%s: Check %v, want %v", what, got, want)
	}
}

func checkCheck(t *testing.T, what string, m api.Module, want api.Fault) {
	t.Helper()
	if got := Check(m); got != want {
		t.Errorf("%s: Check %v, want %v", what, got, want)
	}
}

// letters: so many names that differ, of which a later one is greater.
func letters(n int) []string {
	var l []string
	for i := range n {
		l = append(l, "n"+strconv.Itoa(1000+i))
	}
	return l
}

// upTo: 0, 1, .. so many.
func upTo(n int) []int {
	var l []int
	for i := range n {
		l = append(l, i)
	}
	return l
}

// chain: so many blocks in one another, and in the last one a statement.
func chain(blocks int, last api.Stmt) []api.Stmt {
	body := []api.Stmt{last}
	for range blocks {
		body = []api.Stmt{block(body...)}
	}
	return body
}

// P6.1: the rules' numbers.
func TestNumbers(t *testing.T) {
	got := []int{Names, Many, Twice, Params, Entry, Deep, Kinds, Refs, Arity, Strings}
	if !slices.Equal(got, []int{1, 2, 3, 4, 5, 6, 7, 8, 9, 10}) {
		t.Errorf("the rules are %v", got)
	}
}

// P6.1, P6.2: of an empty module, and of the sample, none is broken.
func TestNoneBroken(t *testing.T) {
	empty := api.Module{Strings: []string{}, Globals: []int{}, Funcs: []api.Func{}, Entries: []int{}}
	for _, m := range []api.Module{{}, empty, sample()} {
		checkTree(t, "none broken", m, fine)
		checkCheck(t, "none broken", m, fine)
	}
	bare := api.Module{Strings: []string{"f"}, Funcs: []api.Func{{Locals: []int{}, Sites: []int{}, Body: []api.Stmt{}}}}
	checkCheck(t, "a function of nothing", bare, fine)
}

// P6.1: as many globals, functions, entries as are let; and one more.
func TestManyOfModule(t *testing.T) {
	of := func(globals, funcs, entries int) api.Module {
		m := api.Module{Strings: letters(100), Globals: upTo(globals), Entries: upTo(entries)}
		for i := range funcs {
			m.Funcs = append(m.Funcs, api.Func{Name: i})
		}
		return m
	}
	const n = api.MaxFuncs
	many := broken(Many, -1, -1)
	checkTree(t, "at the bounds", of(n, n, n), fine)
	checkTree(t, "globals", of(n+1, 0, 0), many)
	checkTree(t, "functions", of(0, n+1, 0), many)
	checkTree(t, "entries", of(0, n, n+1), many)
	checkTree(t, "entries, of no functions", of(0, 0, n+1), many)
	far := of(n, n, n)
	far.Strings = letters(5000)
	checkTree(t, "strings have no bound of their own", far, fine)
}

// nameLists: each list of names of the sample, and where its faults are told.
func nameLists(m *api.Module) map[string]struct {
	list []*int
	fn   int
} {
	each := func(l []int) []*int {
		var p []*int
		for i := range l {
			p = append(p, &l[i])
		}
		return p
	}
	type row = struct {
		list []*int
		fn   int
	}
	return map[string]row{
		"globals":     {each(m.Globals), -1},
		"functions":   {[]*int{&m.Funcs[0].Name, &m.Funcs[1].Name}, -1},
		"locals of 0": {each(m.Funcs[0].Locals), 0},
		"sites of 0":  {each(m.Funcs[0].Sites), 0},
		"locals of 1": {each(m.Funcs[1].Locals), 1},
		"sites of 1":  {each(m.Funcs[1].Sites), 1},
	}
}

// named: the sample with one more string, and in a list, at a place, a name of that number.
func named(list string, at, n int, more string) (m api.Module, fn int) {
	m = sample()
	m.Strings = append(m.Strings, more)
	row := nameLists(&m)[list]
	*row.list[at] = n
	return m, row.fn
}

// P6.1: in each list each name must be a string's number, of 1 to MaxName bytes.
func TestNames(t *testing.T) {
	of := sample()
	last := len(of.Strings)
	for list, row := range nameLists(&of) {
		for at := range row.list {
			for _, n := range []int{-1, last + 1, math.MinInt, math.MaxInt} {
				m, fn := named(list, at, n, "z")
				checkTree(t, list+" named beside the strings", m, broken(Names, fn, -1))
			}
			for _, s := range []string{"", strings.Repeat("x", 41), strings.Repeat("\xff", 41), strings.Repeat("é", 21)} {
				m, fn := named(list, at, last, s)
				checkTree(t, list+" named "+strconv.Quote(s), m, broken(Names, fn, -1))
			}
			for _, s := range []string{"z", "\x00", "\xff", " ", "\"\n", strings.Repeat("x", 40), strings.Repeat("é", 20)} {
				m, _ := named(list, at, last, s)
				checkTree(t, list+" named "+strconv.Quote(s), m, fine)
			}
		}
	}
}

// P6.1: a string that nobody names may be of any length, as far as Tree looks.
func TestNamesAreThoseThatAreNamed(t *testing.T) {
	m := sample()
	m.Strings = append(m.Strings, "", strings.Repeat("x", 1000), "a", "a")
	checkTree(t, "strings that nobody names", m, fine)
}

// P6.1: in each list no string of the same bytes is named twice, be it by the same number or another one.
func TestTwice(t *testing.T) {
	of := sample()
	last := len(of.Strings)
	for list, row := range nameLists(&of) {
		for at := 1; at < len(row.list); at++ {
			for ahead := range at {
				n := *row.list[ahead]
				m, fn := named(list, at, n, "z")
				checkTree(t, list+" of one number", m, broken(Twice, fn, -1))
				m, fn = named(list, at, last, of.Strings[n])
				checkTree(t, list+" of the same bytes", m, broken(Twice, fn, -1))
			}
		}
	}
	for _, near := range []string{"G", "g ", "gg", "g\x00"} {
		m, _ := named("globals", 1, last, near)
		checkTree(t, strconv.Quote(near)+" is another name", m, fine)
	}
}

// P6.1: a name may stand in several lists: each has names of its own.
func TestOneNameInManyLists(t *testing.T) {
	m := api.Module{Strings: []string{"x", "y"}, Globals: []int{0, 1}, Funcs: []api.Func{
		{Name: 0, Locals: []int{0, 1}, Sites: []int{0, 1}},
		{Name: 1, Locals: []int{1, 0}, Sites: []int{1, 0}},
	}}
	checkTree(t, "one name in many lists", m, fine)
	checkCheck(t, "one name in many lists", m, fine)
}

// P6.1: an entry is a function's number, and none is there twice.
func TestEntries(t *testing.T) {
	for _, c := range []struct {
		entries []int
		rule    int
	}{
		{nil, 0},
		{[]int{0}, 0},
		{[]int{1}, 0},
		{[]int{0, 1}, 0},
		{[]int{2}, Entry},
		{[]int{-1}, Entry},
		{[]int{math.MinInt}, Entry},
		{[]int{math.MaxInt}, Entry},
		{[]int{1, 2}, Entry},
		{[]int{0, 0}, Twice},
		{[]int{0, 1, 0}, Twice},
		{[]int{2, 2}, Entry},
		{[]int{0, 0, 2}, Twice},
		{[]int{0, 2, 0}, Entry},
	} {
		m := with(func(m *api.Module) { m.Entries = c.entries })
		checkTree(t, "entries", m, broken(c.rule, -1, -1))
	}
	checkTree(t, "an entry of no functions", api.Module{Entries: []int{0}}, broken(Entry, -1, -1))
}

// P6.1: as many locals, sites, statements as are let; and one more.
func TestManyOfFunction(t *testing.T) {
	of := func(locals, sites int, body []api.Stmt) api.Module {
		return with(func(m *api.Module) {
			m.Strings = append(m.Strings, letters(100)...)
			f := &m.Funcs[1]
			f.Locals, f.Sites, f.Body = nil, nil, body
			for i := range locals {
				f.Locals = append(f.Locals, 8+i)
			}
			for i := range sites {
				f.Sites = append(f.Sites, 8+i)
			}
		})
	}
	const n = api.MaxNames
	checkTree(t, "names at the bounds", of(n, n, nil), fine)
	checkTree(t, "locals", of(n+1, 0, nil), broken(Many, 1, -1))
	checkTree(t, "sites", of(0, n+1, nil), broken(Many, 1, -1))
	move := api.Stmt{Kind: api.Move, A: global(0), B: global(0)}
	moves := func(n int) []api.Stmt { return slices.Repeat([]api.Stmt{move}, n) }
	checkTree(t, "400 statements", of(0, 0, moves(400)), fine)
	checkTree(t, "401 statements", of(0, 0, moves(401)), broken(Many, 1, -1))
	for n, want := range map[int]api.Fault{400: fine, 401: broken(Many, 1, -1)} {
		checkTree(t, "blocks count", of(0, 0, slices.Repeat([]api.Stmt{block()}, n)), want)
		checkTree(t, "all in a block", of(0, 0, []api.Stmt{block(moves(n - 1)...)}), want)
		checkTree(t, "in a block, and behind", of(0, 0, append([]api.Stmt{block(moves(100)...)}, moves(n-101)...)), want)
		checkTree(t, "ahead, in blocks, between", of(0, 0, append(moves(7), block(moves(n-13)...), move, block(block(move), move))), want)
	}
	// Only a Block has statements in it: what else has a body is of a wrong kind, not too many.
	odd := api.Stmt{Kind: api.Move, A: global(0), B: global(0), Body: moves(500)}
	checkTree(t, "a body of a Move", of(0, 0, []api.Stmt{odd}), broken(Kinds, 1, 0))
}

// P6.1: a function's parameters are from 0 to as many as it has locals, MaxArgs at most.
func TestParams(t *testing.T) {
	of := func(params, locals int) api.Module {
		return api.Module{Strings: letters(50), Funcs: []api.Func{{Name: 0}, {Name: 1, Params: params, Locals: upTo(locals)}}}
	}
	for _, c := range []struct {
		params, locals int
		right          bool
	}{
		{0, 0, true}, {0, 3, true}, {3, 3, true}, {2, 3, true}, {6, 6, true}, {6, 40, true},
		{-1, 0, false}, {-1, 3, false}, {1, 0, false}, {4, 3, false}, {6, 5, false}, {7, 6, false}, {7, 7, false}, {7, 40, false},
		{math.MinInt, 3, false}, {math.MaxInt, 3, false},
	} {
		want := broken(Params, 1, -1)
		if c.right {
			want = fine
		}
		checkTree(t, strconv.Itoa(c.params)+" of "+strconv.Itoa(c.locals), of(c.params, c.locals), want)
	}
}

// P6.1: a statement stands in MaxDeep blocks at most; an empty block in eight is in no more than these.
func TestDeep(t *testing.T) {
	move := api.Stmt{Kind: api.Move, A: global(0), B: global(0)}
	checkTree(t, "in eight blocks", alone(chain(8, move)...), fine)
	checkTree(t, "in nine blocks", alone(chain(9, move)...), broken(Deep, 0, 9))
	checkTree(t, "a block in eight blocks", alone(chain(8, block())...), fine)
	checkTree(t, "a block in nine blocks", alone(chain(9, block())...), broken(Deep, 0, 9))
	checkTree(t, "ten blocks", alone(chain(10, move)...), broken(Deep, 0, 9))
	checkTree(t, "399 blocks", alone(chain(399, move)...), broken(Deep, 0, 9))
	checkTree(t, "400 blocks", alone(chain(400, move)...), broken(Many, 0, -1))
	behind := append([]api.Stmt{move, block(move)}, chain(9, move)...)
	checkTree(t, "behind others", alone(behind...), broken(Deep, 0, 12))
	apart := append(chain(8, move), chain(8, move)...)
	checkTree(t, "blocks that end and begin", alone(apart...), fine)
}

// refsOf: a reference of each kind, that is there (also of kinds that there aren't); and one to nothing that has a number.
func refsOf() []api.Ref {
	return []api.Ref{{}, local(0), global(0), fun(1), site(0), {Kind: 5}, {Kind: 255}, {ID: 1}, {ID: -1}}
}

// mayStand: the document's table of kinds, by the place in refsOf: what A, B may be, and whether there are Args and a Body.
func mayStand(kind byte) (a, b string, args, body, known bool) {
	switch kind {
	case api.Take:
		return "12", "1234", false, false, true
	case api.Move, api.Load, api.Store:
		return "12", "12", false, false, true
	case api.Call:
		return "012", "123", true, false, true
	case api.Return:
		return "0", "12", false, false, true
	case api.Block:
		return "0", "0", false, true, true
	}
	return "", "", false, false, false
}

// P6.1: a statement of each kind, with references of each kind, with and without arguments and a body: just the document's are right.
func TestKinds(t *testing.T) {
	refs := refsOf()
	for kind := range 256 {
		a, b, args, body, known := mayStand(byte(kind))
		for i, x := range refs {
			for j, y := range refs {
				for more := range 4 {
					s := api.Stmt{Kind: byte(kind), A: x, B: y}
					right := known && strings.Contains(a, strconv.Itoa(i)) && strings.Contains(b, strconv.Itoa(j))
					if more&1 != 0 {
						s.Args = []api.Ref{local(0)}
						right = right && args
					}
					if more&2 != 0 {
						s.Body = []api.Stmt{{Kind: api.Return, B: local(0)}}
						right = right && body
					}
					want := broken(Kinds, 0, 0)
					if right {
						want = fine
					}
					if right && y.Kind == api.Fun && s.Args != nil { // fun(1) takes none: so the next rule is broken
						want = broken(Arity, 0, 0)
					}
					if got := Tree(alone(s)); got != want {
						t.Errorf("%v: %v, want %v", s, got, want)
					}
				}
			}
		}
	}
}

// P6.1: a Call's arguments are variables, each of them.
func TestKindsOfArguments(t *testing.T) {
	for i, r := range refsOf() {
		want := broken(Kinds, 0, 0)
		if i == 1 || i == 2 {
			want = fine
		}
		for _, args := range [][]api.Ref{{r, local(0)}, {local(0), r}} {
			for _, b := range []api.Ref{fun(0), local(1), global(1)} {
				checkTree(t, "an argument", alone(api.Stmt{Kind: api.Call, B: b, Args: args}), want)
			}
		}
	}
}

// P6.1: empty lists are as none.
func TestEmptyListsOfStatements(t *testing.T) {
	s := api.Stmt{Kind: api.Move, A: local(0), B: local(1), Args: []api.Ref{}, Body: []api.Stmt{}}
	b := api.Stmt{Kind: api.Block, Args: []api.Ref{}, Body: []api.Stmt{}}
	checkTree(t, "empty lists", alone(s, b), fine)
}

// P6.1: what is named is there, of its function's locals and sites, of the globals, of the functions.
func TestRefs(t *testing.T) {
	counts := map[int]map[byte]int{
		0: {api.Local: 3, api.Global: 5, api.Fun: 2, api.Site: 1},
		1: {api.Local: 1, api.Global: 5, api.Fun: 2, api.Site: 4},
	}
	for fn, byKind := range counts {
		for kind, many := range byKind {
			for _, id := range []int{math.MinInt, -1, 0, 1, 2, 3, 4, 5, 6, math.MaxInt} {
				r := api.Ref{Kind: kind, ID: id}
				want := broken(Refs, fn, 1)
				if id >= 0 && id < many {
					want = fine
				}
				for _, s := range naming(r) {
					m := with(func(m *api.Module) {
						m.Globals = append(m.Globals, 0, 1, 2)
						m.Funcs[0].Params = 0
						m.Funcs[0].Body, m.Funcs[1].Body = nil, nil
						m.Funcs[fn].Body = []api.Stmt{block(), s}
					})
					checkTree(t, "a reference", m, want)
				}
			}
		}
	}
}

// naming: the statements in which a reference may stand, in each place that it may have; all else is there.
func naming(r api.Ref) []api.Stmt {
	l := []api.Stmt{{Kind: api.Take, A: local(0), B: r}}
	if r.Kind == api.Fun {
		l = append(l, api.Stmt{Kind: api.Call, B: r}, api.Stmt{Kind: api.Call, A: global(0), B: r})
	}
	if r.Kind == api.Local || r.Kind == api.Global {
		for _, kind := range []byte{api.Move, api.Load, api.Store} {
			l = append(l, api.Stmt{Kind: kind, A: r, B: local(0)}, api.Stmt{Kind: kind, A: local(0), B: r})
		}
		l = append(l,
			api.Stmt{Kind: api.Take, A: r, B: global(0)},
			api.Stmt{Kind: api.Return, B: r},
			api.Stmt{Kind: api.Call, A: r, B: fun(0)},
			api.Stmt{Kind: api.Call, B: r},
			api.Stmt{Kind: api.Call, B: local(0), Args: []api.Ref{r}},
			api.Stmt{Kind: api.Call, B: local(0), Args: []api.Ref{local(0), global(0), r}},
			api.Stmt{Kind: api.Call, B: local(0), Args: []api.Ref{r, local(0)}})
	}
	return l
}

// P6.1: a Call of a function has just its parameters; of a variable any number, MaxArgs at most.
func TestArity(t *testing.T) {
	args := func(n int) []api.Ref { return slices.Repeat([]api.Ref{global(0)}, n) }
	for params := range 7 {
		for n := range 9 {
			m := api.Module{Strings: letters(10), Globals: []int{0}, Funcs: []api.Func{
				{Name: 0, Body: []api.Stmt{block(api.Stmt{Kind: api.Call, B: fun(1), Args: args(n)})}},
				{Name: 1, Params: params, Locals: upTo(7)},
			}}
			want := broken(Arity, 0, 1)
			if n == params {
				want = fine
			}
			checkTree(t, "by name", m, want)
			m.Funcs[0].Body[0].Body[0].B = global(0)
			want = broken(Arity, 0, 1)
			if n <= 6 {
				want = fine
			}
			checkTree(t, "by a variable", m, want)
		}
	}
	checkTree(t, "itself", alone(api.Stmt{Kind: api.Call, B: fun(0), Args: args(2)}), fine)
	checkTree(t, "itself, with one less", alone(api.Stmt{Kind: api.Call, B: fun(0), Args: args(1)}), broken(Arity, 0, 0))
}

// P6.1: a call ahead is held against a function that isn't looked at yet, whatever its parameters are.
func TestArityOfWrongParams(t *testing.T) {
	calling := func(params, args int) api.Module {
		return with(func(m *api.Module) {
			m.Strings = append(m.Strings, letters(9)...)
			m.Funcs[1].Params = params
			m.Funcs[1].Locals = []int{8, 9, 10, 11, 12, 13, 14}
			m.Funcs[0].Body = []api.Stmt{{Kind: api.Call, B: fun(1), Args: slices.Repeat([]api.Ref{local(0)}, args)}}
		})
	}
	checkTree(t, "below 0", calling(-1, 0), broken(Arity, 0, 0))
	checkTree(t, "seven", calling(7, 7), broken(Arity, 0, 0))
	checkTree(t, "six of seven", calling(7, 6), broken(Arity, 0, 0))
	checkTree(t, "six", calling(6, 6), fine)
}

// wrong is one broken rule: its number, where, and how the sample comes to break it.
type wrong struct {
	what         string
	rule, fn, st int
	do           func(m *api.Module)
}

// inOrder: ways to break rules, the ones that are told first ahead; each leaves the others what they are.
func inOrder() []wrong {
	put := func(fn, at int, s api.Stmt) func(m *api.Module) {
		return func(m *api.Module) { m.Funcs[fn].Body[at] = s }
	}
	deep := chain(9, api.Stmt{Kind: 99})[0]
	return []wrong{
		{"many entries", Many, -1, -1, func(m *api.Module) { m.Entries = append(m.Entries, make([]int, 50)...) }},
		{"no global's string", Names, -1, -1, func(m *api.Module) { m.Globals[0] = -1 }},
		{"a global twice", Twice, -1, -1, func(m *api.Module) { m.Globals = append(m.Globals, 5, 5) }},
		{"no function's string", Names, -1, -1, func(m *api.Module) { m.Funcs[0].Name = 77 }},
		{"a function twice", Twice, -1, -1, func(m *api.Module) { m.Funcs = append(m.Funcs, api.Func{Name: 6}) }},
		{"no entry", Entry, -1, -1, func(m *api.Module) { m.Entries[0] = -1 }},
		{"an entry twice", Twice, -1, -1, func(m *api.Module) { m.Entries = append(m.Entries, 0) }},
		{"many sites", Many, 0, -1, func(m *api.Module) { m.Funcs[0].Sites = append(m.Funcs[0].Sites, make([]int, 50)...) }},
		{"params", Params, 0, -1, func(m *api.Module) { m.Funcs[0].Params = -1 }},
		{"no local's string", Names, 0, -1, func(m *api.Module) { m.Funcs[0].Locals[0] = -1 }},
		{"a local twice", Twice, 0, -1, func(m *api.Module) { m.Funcs[0].Locals[2] = 1 }},
		{"no site's string", Names, 0, -1, func(m *api.Module) { m.Funcs[0].Sites[0] = -1 }},
		{"a site twice", Twice, 0, -1, func(m *api.Module) { m.Funcs[0].Sites = append(m.Funcs[0].Sites, 7) }},
		{"arity", Arity, 0, 2, func(m *api.Module) { m.Funcs[0].Body[1].Body[0].Args = nil }},
		{"refs in a block", Refs, 0, 4, func(m *api.Module) { m.Funcs[0].Body[1].Body[1].Body[0].A = local(3) }},
		{"kinds behind a block", Kinds, 0, 6, put(0, 2, api.Stmt{Kind: 99})},
		{"too deep", Deep, 0, 7 + 9, put(0, 3, deep)},
		{"many locals", Many, 1, -1, func(m *api.Module) { m.Funcs[1].Locals = append(m.Funcs[1].Locals, make([]int, 50)...) }},
		{"more params than locals", Params, 1, -1, func(m *api.Module) {
			m.Funcs[1].Params = 6
			m.Funcs[0].Body[2] = api.Stmt{Kind: api.Call, B: fun(1), Args: slices.Repeat([]api.Ref{local(0)}, 6)}
		}},
		{"a site of 1 twice", Twice, 1, -1, func(m *api.Module) { m.Funcs[1].Sites[3] = 0 }},
		{"kinds of 1", Kinds, 1, 0, put(1, 0, api.Stmt{Kind: api.Move, B: local(9)})},
		{"refs of 1", Refs, 1, 1, put(1, 1, api.Stmt{Kind: api.Return, B: local(9)})},
		{"arity of 1", Arity, 1, 2, put(1, 2, api.Stmt{Kind: api.Call, B: fun(0), Args: []api.Ref{local(0)}})},
	}
}

// P6.1: of two rules that are broken the one is told that stands first in the order.
func TestOrder(t *testing.T) {
	l := inOrder()
	for i, first := range l {
		want := broken(first.rule, first.fn, first.st)
		checkTree(t, first.what, with(first.do), want)
		for _, second := range l[i+1:] {
			m := with(first.do)
			if first.what == "kinds behind a block" && second.what == "more params than locals" {
				continue // they write to one statement
			}
			second.do(&m)
			checkTree(t, first.what+", then "+second.what, m, want)
		}
	}
}

// P6.1: of what one statement breaks: Deep, Kinds, Refs, Arity.
func TestOrderInAStatement(t *testing.T) {
	gone := api.Stmt{Kind: api.Call, A: local(9), B: fun(0)}
	bad := api.Stmt{Kind: api.Call, A: site(9), B: fun(0)}
	checkTree(t, "deep, all else", alone(chain(9, bad)...), broken(Deep, 0, 9))
	checkTree(t, "deep, refs", alone(chain(9, gone)...), broken(Deep, 0, 9))
	checkTree(t, "kinds, refs, arity", alone(bad), broken(Kinds, 0, 0))
	checkTree(t, "refs, arity", alone(gone), broken(Refs, 0, 0))
	checkTree(t, "a function that isn't there", alone(api.Stmt{Kind: api.Call, B: fun(2)}), broken(Refs, 0, 0))
	many := api.Stmt{Kind: api.Call, B: local(0), Args: slices.Repeat([]api.Ref{local(9)}, 7)}
	checkTree(t, "arguments that aren't there, too many", alone(many), broken(Refs, 0, 0))
	many.Args = slices.Repeat([]api.Ref{site(0)}, 7)
	checkTree(t, "arguments of a wrong kind, too many", alone(many), broken(Kinds, 0, 0))
	// A block that has what it shouldn't is told ahead of what is in it.
	checkTree(t, "a block, and what is in it", alone(api.Stmt{Kind: api.Block, A: local(0), Body: []api.Stmt{bad}}), broken(Kinds, 0, 0))
	checkTree(t, "in a block", alone(block(bad)), broken(Kinds, 0, 1))
}

// P6.1: in one list, name by name: of two names the first one's rule.
func TestOrderInAList(t *testing.T) {
	for _, c := range []struct {
		globals []int
		rule    int
	}{
		{[]int{0, 0, -1}, Twice},
		{[]int{0, -1, 0}, Names},
		{[]int{-1, -1}, Names},
	} {
		m := with(func(m *api.Module) { m.Globals = c.globals })
		checkTree(t, "globals", m, broken(c.rule, -1, -1))
	}
}

// P6.1: Variable, of every kind, whatever the number is.
func TestVariable(t *testing.T) {
	for kind := range 256 {
		for _, id := range []int{math.MinInt, -1, 0, 7, math.MaxInt} {
			want := byte(kind) == api.Local || byte(kind) == api.Global
			if Variable(api.Ref{Kind: byte(kind), ID: id}) != want {
				t.Errorf("kind %d: not %v", kind, want)
			}
		}
	}
}

// P6.2: Used tells the numbers as they stand, also those that are there twice, or no string's.
func TestUsed(t *testing.T) {
	for _, c := range []struct {
		m    api.Module
		want []int
	}{
		{api.Module{}, nil},
		{api.Module{Strings: []string{"a"}, Entries: []int{0}}, nil},
		{api.Module{Globals: []int{3, -1, 3}}, []int{3, -1, 3}},
		{api.Module{Funcs: []api.Func{{}}}, []int{0}},
		{sample(), []int{4, 5, 3, 0, 1, 2, 7, 6, 0, 0, 1, 2, 7}},
		{api.Module{Funcs: []api.Func{{Name: 9, Sites: []int{8}}, {Name: -7, Locals: []int{99}}}, Globals: []int{1}}, []int{1, 9, 8, -7, 99}},
	} {
		if got := Used(c.m); !slices.Equal(got, c.want) {
			t.Errorf("Used %v, want %v", got, c.want)
		}
	}
}

// Memory: Used answers a list of its own.
func TestUsedIsNew(t *testing.T) {
	globals := []int{1, 2, 3}
	m := api.Module{Globals: globals[:1]}
	l := Used(m)
	l[0] = 9
	_ = append(l, 9)
	if !slices.Equal(globals, []int{1, 2, 3}) {
		t.Errorf("what was handed in is %v", globals)
	}
}

// P6.2: strings rise, byte by byte, none is there twice, and each is used, by a global, a function, a local or a site.
func TestStrings(t *testing.T) {
	of := func(l ...string) api.Module { return api.Module{Strings: l, Globals: upTo(len(l))} }
	bad := broken(Strings, -1, -1)
	for _, m := range []api.Module{of(), of("b"), of("a", "b"), of("B", "a"), of("a", "aa", "ab"), of("\x00", "a", "a\x00", "\xff")} {
		checkCheck(t, "rising", m, fine)
	}
	for _, m := range []api.Module{of("b", "a"), of("a", "c", "b"), of("b", "a", "c"), of("a", "B"), of("aa", "a"), of("\xff", "a")} {
		checkCheck(t, "not rising", m, bad)
		checkTree(t, "not rising", m, fine)
	}
	for _, m := range []api.Module{
		{Strings: []string{"a"}},
		{Strings: []string{""}},
		{Strings: []string{"a", "b"}, Globals: []int{0}},
		{Strings: []string{"a", "b"}, Globals: []int{1}},
		{Strings: []string{"a", "b", "c"}, Globals: []int{2, 0}},
		{Strings: []string{"a", "a"}, Globals: []int{1}},
		{Strings: []string{"a", "a"}, Globals: []int{0}, Funcs: []api.Func{{Name: 1}}},
	} {
		checkCheck(t, "not used, or twice", m, bad)
		checkTree(t, "not used, or twice", m, fine)
	}
}

// P6.2: in the sample each use of a string counts, wherever it stands; one more string doesn't belong there.
func TestStringsOfSample(t *testing.T) {
	bad := broken(Strings, -1, -1)
	checkCheck(t, "one more", with(func(m *api.Module) { m.Strings = append(m.Strings, "z") }), bad)
	checkCheck(t, "two turned", with(func(m *api.Module) { m.Strings[0], m.Strings[1] = "b", "a" }), bad)
	checkCheck(t, "a global less", with(func(m *api.Module) {
		m.Globals, m.Funcs[0].Body, m.Funcs[1].Body = m.Globals[:1], nil, nil
	}), bad)
	checkCheck(t, "a function less", with(func(m *api.Module) {
		m.Funcs, m.Entries, m.Funcs[0].Body = m.Funcs[:1], []int{0}, nil
	}), bad)
	only := api.Module{Strings: []string{"f", "l", "s"}, Funcs: []api.Func{{Locals: []int{1}, Sites: []int{2}}}}
	checkCheck(t, "used by a function, its local, its site", only, fine)
	only.Funcs[0].Sites = nil
	checkCheck(t, "without the site", only, bad)
	only.Funcs[0].Sites, only.Funcs[0].Locals = []int{2}, nil
	checkCheck(t, "without the local", only, bad)
}

// P6.2: Tree's rules come ahead of the strings'.
func TestStringsComeLast(t *testing.T) {
	for _, x := range inOrder() {
		m := with(x.do)
		m.Strings = append(m.Strings, "a", "a")
		checkCheck(t, x.what, m, broken(x.rule, x.fn, x.st))
	}
}

// P1: bodies that hold themselves, once or many times, and very deep ones, are too many statements.
func TestEndlessBodies(t *testing.T) {
	once := []api.Stmt{block()}
	once[0].Body = once
	checkTree(t, "itself", alone(once...), broken(Many, 0, -1))
	twice := []api.Stmt{block(), block()}
	twice[0].Body, twice[1].Body = twice, twice
	checkTree(t, "itself twice", alone(twice...), broken(Many, 0, -1))
	checkTree(t, "very deep", alone(chain(1000000, api.Stmt{})...), broken(Many, 0, -1))
	odd := []api.Stmt{{Kind: api.Move, A: local(0), B: local(0)}}
	odd[0].Body = odd
	checkTree(t, "a Move that holds itself", alone(odd...), broken(Kinds, 0, 0))
}

// P6.1: many statements are more than layer 5's Count tells, for shapes of bodies at the bound.
func TestManyIsByCount(t *testing.T) {
	for width := 1; width < 12; width++ {
		for more := range 60 {
			body := []api.Stmt{}
			for range 3 {
				wide := slices.Repeat([]api.Stmt{block()}, width)
				body = append(body, block(append(wide, block(slices.Repeat([]api.Stmt{block(block())}, width+more)...))...))
			}
			want := fine
			if module.Count(body) > 400 {
				want = broken(Many, 0, -1)
			}
			checkTree(t, "blocks", alone(body...), want)
		}
	}
}

// P1: modules with anything in them.
func TestAnything(t *testing.T) {
	refs := append(refsOf(), local(-1), global(99), fun(-5), site(math.MaxInt))
	seed := uint32(1)
	pick := func(n int) int { // a row of numbers that is the same each time
		seed = seed*1664525 + 1013904223
		return int(seed>>8) % n
	}
	for range 3000 {
		m := sample()
		for i := range m.Funcs {
			f := &m.Funcs[i]
			f.Params = pick(5) - 1
			for range pick(4) {
				s := api.Stmt{Kind: byte(pick(9)), A: refs[pick(len(refs))], B: refs[pick(len(refs))]}
				for range pick(3) {
					s.Args = append(s.Args, refs[pick(len(refs))])
				}
				f.Body = append(f.Body, s, block(s))
			}
		}
		m.Entries[pick(2)] = pick(4) - 1
		x := Tree(m)
		right := x == fine || x.Err == api.ErrRule && x.Rule >= Names && x.Rule <= Arity && x.Func >= -1 && x.Func < 2 && x.Stmt >= -1
		if !right || x.At != 0 || x.Line != 0 || x.Col != 0 || Check(m) != x {
			t.Fatalf("%v: %v, Check %v", m, x, Check(m))
		}
	}
}

// P2, Memory: nothing that is asked changes what was handed in, and the same is answered again.
func TestSameAgain(t *testing.T) {
	for _, x := range append(inOrder(), wrong{"nothing", 0, -1, -1, func(*api.Module) {}}) {
		m := with(x.do)
		used := Used(m)
		for range 3 {
			checkCheck(t, x.what, m, broken(x.rule, x.fn, x.st))
			checkTree(t, x.what, m, broken(x.rule, x.fn, x.st))
			if !slices.Equal(Used(m), used) {
				t.Errorf("%s: Used answers something else", x.what)
			}
		}
		if !reflect.DeepEqual(m, with(x.do)) {
			t.Errorf("%s: what was handed in has changed", x.what)
		}
	}
}
