package module

import (
	"math"
	"reflect"
	"testing"

	"weathervane/api"
)

// sample is a module with something in each list, made anew each time: also what no rule would let, for layer 5 knows no rule.
func sample() api.Module {
	local := func(n int) api.Ref { return api.Ref{Kind: api.Local, ID: n} }
	return api.Module{
		Strings: []string{"f", "g", "", "x\xff"},
		Globals: []int{1, -7},
		Funcs: []api.Func{
			{Name: 0, Params: 1, Locals: []int{3, 2}, Sites: []int{1, 99}, Body: []api.Stmt{
				{Kind: api.Take, A: local(0), B: api.Ref{Kind: api.Global, ID: 1}},
				{Kind: api.Block, Body: []api.Stmt{
					{Kind: api.Call, A: local(1), B: local(0), Args: []api.Ref{local(0), local(1)}},
					{Kind: api.Block, Body: []api.Stmt{{Kind: api.Store, A: local(1), B: local(1)}}},
					{Kind: api.Block},
				}},
				{Kind: api.Move, A: local(-1), Args: []api.Ref{local(5)}, Body: []api.Stmt{
					{Kind: api.Load, Body: []api.Stmt{{Kind: 77, Args: []api.Ref{{}}}}},
				}},
				{Kind: api.Return, B: local(1)},
			}},
			{Name: 1, Params: -3},
		},
		Entries: []int{0, 0, 12},
	}
}

// chain: so many blocks in one another, and in the last one a statement.
func chain(blocks int, last api.Stmt) []api.Stmt {
	body := []api.Stmt{last}
	for range blocks {
		body = []api.Stmt{{Kind: api.Block, Body: body}}
	}
	return body
}

// places: every number, text and list of a value, each once.
func places(v reflect.Value) []reflect.Value {
	l := []reflect.Value{}
	switch v.Kind() {
	case reflect.Struct:
		for i := range v.NumField() {
			l = append(l, places(v.Field(i))...)
		}
	case reflect.Slice:
		l = append(l, v)
		for i := range v.Len() {
			l = append(l, places(v.Index(i))...)
		}
	default:
		l = append(l, v)
	}
	return l
}

// change makes a number, a text or a list another one, in the memory that it has.
func change(v reflect.Value) {
	switch v.Kind() {
	case reflect.Int:
		v.SetInt(v.Int() + 1)
	case reflect.Uint8:
		v.SetUint(v.Uint() ^ 1)
	case reflect.String:
		v.SetString(v.String() + "!")
	case reflect.Slice:
		v.Set(reflect.Append(v, reflect.Zero(v.Type().Elem())))
	}
}

// cutShort takes the last element off a list; false: it is no list, or has none.
func cutShort(v reflect.Value) bool {
	if v.Kind() != reflect.Slice || v.Len() == 0 {
		return false
	}
	v.Set(v.Slice(0, v.Len()-1))
	return true
}

// samplePlaces: a sample, and its places.
func samplePlaces() (*api.Module, []reflect.Value) {
	m := sample()
	return &m, places(reflect.ValueOf(&m).Elem())
}

func checkEqual(t *testing.T, what string, a, b api.Module, want bool) {
	t.Helper()
	if Equal(a, b) != want || Equal(b, a) != want {
		t.Errorf("%s: Equal is %v, %v, want %v", what, Equal(a, b), Equal(b, a), want)
	}
}

// P5.1: modules that were made alike are one; one that is another in any one place isn't, whichever stands first.
func TestEqualInEachPlace(t *testing.T) {
	checkEqual(t, "made alike", sample(), sample(), true)
	_, all := samplePlaces()
	if len(all) < 100 {
		t.Fatalf("only %d places", len(all))
	}
	for i, v := range all {
		m, l := samplePlaces()
		change(l[i])
		checkEqual(t, v.Type().String()+" changed", *m, sample(), false)
		m, l = samplePlaces()
		if cutShort(l[i]) {
			checkEqual(t, v.Type().String()+" cut", *m, sample(), false)
		}
	}
}

// P5.1: element by element: neither another order, nor other numbers that name the same strings, are one.
func TestEqualIsByElements(t *testing.T) {
	named := func(strings []string, name int) api.Module {
		return api.Module{Strings: strings, Globals: []int{name}}
	}
	checkEqual(t, "other numbers", named([]string{"a", "b"}, 0), named([]string{"b", "a"}, 1), false)
	checkEqual(t, "one string twice", named([]string{"a", "a"}, 0), named([]string{"a", "a"}, 1), false)
	checkEqual(t, "entries turned", api.Module{Entries: []int{0, 1}}, api.Module{Entries: []int{1, 0}}, false)
	checkEqual(t, "entries, globals", api.Module{Entries: []int{0}}, api.Module{Globals: []int{0}}, false)
}

// emptyLists makes each list that has no elements nil, or an empty one.
func emptyLists(m *api.Module, asNil bool) {
	for _, v := range places(reflect.ValueOf(m).Elem()) {
		if v.Kind() != reflect.Slice || v.Len() > 0 {
			continue
		}
		v.Set(reflect.Zero(v.Type()))
		if !asNil {
			v.Set(reflect.MakeSlice(v.Type(), 0, 3))
		}
	}
}

// P5.1: nil and empty lists are one, everywhere.
func TestNilAndEmptyAreOne(t *testing.T) {
	for _, m := range []api.Module{{}, {Funcs: []api.Func{{}}}, {Funcs: []api.Func{{Body: []api.Stmt{{}}}}}, sample()} {
		a, b := Copy(m), Copy(m)
		emptyLists(&a, true)
		emptyLists(&b, false)
		checkEqual(t, "nil and empty", a, b, true)
		checkEqual(t, "copies of nil and empty", Copy(a), Copy(b), true)
	}
	if !SameBody(nil, []api.Stmt{}) || !SameBody([]api.Stmt{}, nil) || !SameBody(nil, nil) {
		t.Error("SameBody of nothing")
	}
	if SameBody(nil, make([]api.Stmt, 1)) || SameBody(make([]api.Stmt, 1), nil) {
		t.Error("SameBody of nothing and something")
	}
}

// P5.1: SameBody of any two of a few bodies.
func TestSameBody(t *testing.T) {
	move, load := api.Stmt{Kind: api.Move}, api.Stmt{Kind: api.Load}
	block := func(l ...api.Stmt) api.Stmt { return api.Stmt{Kind: api.Block, Body: l} }
	bodies := func() [][]api.Stmt {
		return [][]api.Stmt{
			nil,
			{move},
			{load},
			{move, load},
			{load, move},
			{block()},
			{block(move)},
			{block(), move},
			{block(move), load},
			{block(move, load)},
			{block(block(move), load)},
			{block(block(move, load))},
			{block(block(load, move))},
			{block(move), block()},
			{block(), block(move)},
			{{Kind: api.Move, Body: []api.Stmt{move}}},
			{{Kind: api.Move, Body: []api.Stmt{load}}},
			{{Kind: api.Move, A: api.Ref{Kind: api.Local}}},
			{{Kind: api.Move, B: api.Ref{Kind: api.Local}}},
			{{Kind: api.Move, Args: []api.Ref{{}}}},
		}
	}
	for i, a := range bodies() {
		for j, b := range bodies() {
			if got := SameBody(a, b); got != (i == j) {
				t.Errorf("%v, %v: SameBody is %v", a, b, got)
			}
		}
	}
}

// P5.1: a thousand blocks in one another are held against each other, and copied, down to the last.
func TestThousandBlocks(t *testing.T) {
	of := func(blocks int, kind byte) api.Module {
		return api.Module{Funcs: []api.Func{{Body: chain(blocks, api.Stmt{Kind: kind})}}}
	}
	for _, n := range []int{1, 8, 999, 1000} {
		a := of(n, api.Move)
		checkEqual(t, "alike", a, of(n, api.Move), true)
		checkEqual(t, "another one in the last", a, of(n, api.Load), false)
		checkEqual(t, "one block less", a, of(n-1, api.Move), false)
		c := Copy(a)
		checkEqual(t, "copy", a, c, true)
		last := c.Funcs[0].Body
		for last[0].Kind == api.Block {
			last = last[0].Body
		}
		last[0].Kind = api.Store
		checkEqual(t, "a copy that was written over", a, c, false)
		checkEqual(t, "what was copied", a, of(n, api.Move), true)
	}
}

// P1, P5.1: bodies of what is no Block have no bound.
func TestBodiesOfOthersInOneAnother(t *testing.T) {
	nest := func(last byte) api.Module {
		body := []api.Stmt{{Kind: last}}
		for range 1000000 {
			body = []api.Stmt{{Kind: api.Move, Body: body}}
		}
		return api.Module{Funcs: []api.Func{{Body: body}}}
	}
	m := nest(api.Load)
	checkEqual(t, "copy", Copy(m), m, true)
	checkEqual(t, "another one", nest(api.Store), m, false)
	if body := m.Funcs[0].Body; Count(body) != 1 || len(Flat(body)) != 1 {
		t.Error("what is in a Move is listed")
	}
}

// at is an item as a test writes it: the number, how deep, and the statement's mark (its A's ID).
type at struct {
	n, deep, mark int
}

func checkFlat(t *testing.T, what string, body []api.Stmt, want []at) {
	t.Helper()
	var got []at
	for _, x := range Flat(body) {
		got = append(got, at{x.N, x.Deep, x.S.A.ID})
	}
	if !reflect.DeepEqual(got, want) {
		t.Errorf("%s: Flat %v, want %v", what, got, want)
	}
	if n := Count(body); n != len(want) {
		t.Errorf("%s: Count %d, want %d", what, n, len(want))
	}
}

// marked: a statement of a kind, with a mark, and statements in it.
func marked(kind byte, mark int, body ...api.Stmt) api.Stmt {
	return api.Stmt{Kind: kind, A: api.Ref{ID: mark}, Body: body}
}

// P5.1: in order, a Block ahead of what is in it; only a Block has statements in it.
func TestFlatAndCount(t *testing.T) {
	checkFlat(t, "nil", nil, nil)
	checkFlat(t, "empty", []api.Stmt{}, nil)
	checkFlat(t, "a Block with a Move in it", []api.Stmt{marked(api.Block, 5, marked(api.Move, 6))}, []at{{0, 0, 5}, {1, 1, 6}})
	checkFlat(t, "an empty Block", []api.Stmt{marked(api.Block, 5)}, []at{{0, 0, 5}})
	checkFlat(t, "in and out", []api.Stmt{
		marked(api.Take, 10),
		marked(api.Block, 11,
			marked(api.Block, 12, marked(api.Load, 13), marked(api.Block, 14, marked(api.Store, 15))),
			marked(api.Call, 16),
			marked(api.Block, 17)),
		marked(api.Return, 18),
		marked(api.Block, 19, marked(api.Move, 20)),
	}, []at{{0, 0, 10}, {1, 0, 11}, {2, 1, 12}, {3, 2, 13}, {4, 2, 14}, {5, 3, 15}, {6, 1, 16}, {7, 1, 17}, {8, 0, 18}, {9, 0, 19}, {10, 1, 20}})
	for kind := range 256 {
		body := []api.Stmt{marked(byte(kind), 1, marked(api.Move, 2)), marked(api.Move, 3)}
		want := []at{{0, 0, 1}, {1, 0, 3}}
		if byte(kind) == api.Block {
			want = []at{{0, 0, 1}, {1, 1, 2}, {2, 0, 3}}
		}
		checkFlat(t, "a kind with a body", body, want)
	}
}

// P5.1: an item's statement is the one that stands there, whole, also a body that isn't listed.
func TestFlatTellsStatements(t *testing.T) {
	body := sample().Funcs[0].Body
	want := []api.Stmt{body[0], body[1], body[1].Body[0], body[1].Body[1], body[1].Body[1].Body[0], body[1].Body[2], body[2], body[3]}
	l := Flat(body)
	if len(l) != len(want) {
		t.Fatalf("%d items, want %d", len(l), len(want))
	}
	for i, x := range l {
		if !SameBody([]api.Stmt{x.S}, want[i:i+1]) || x.N != i {
			t.Errorf("item %d: %v, want %v", i, x, want[i])
		}
	}
}

// P5.1: what stands in a thousand blocks is listed; in one more it isn't, nor has it a number.
func TestFlatDeep(t *testing.T) {
	for _, c := range []struct {
		blocks, listed int
	}{{0, 1}, {1, 2}, {999, 1000}, {1000, 1001}, {1001, 1001}, {1002, 1001}, {5000, 1001}, {1000000, 1001}} {
		body := append(chain(c.blocks, marked(api.Move, 1)), marked(api.Return, 2))
		l := Flat(body)
		if len(l) != c.listed+1 || Count(body) != c.listed+1 {
			t.Errorf("%d blocks: %d listed, Count %d, want %d", c.blocks, len(l), Count(body), c.listed+1)
			continue
		}
		for i, x := range l[:c.listed] {
			if x.N != i || x.Deep != i || (x.S.Kind == api.Block) != (i < c.blocks) {
				t.Errorf("%d blocks: item %d is number %d, in %d blocks, of kind %d", c.blocks, i, x.N, x.Deep, x.S.Kind)
			}
		}
		if last := l[c.listed]; last.N != c.listed || last.Deep != 0 || last.S.A.ID != 2 {
			t.Errorf("%d blocks: the last one is number %d, in %d blocks", c.blocks, last.N, last.Deep)
		}
	}
}

// P1: a body that is its own ends, for what is too deep isn't listed.
func TestFlatOfItsOwnBody(t *testing.T) {
	body := []api.Stmt{{Kind: api.Block}}
	body[0].Body = body
	if l := Flat(body); len(l) != 1001 || l[1000].Deep != 1000 || Count(body) != 1001 {
		t.Errorf("%d items, Count %d", len(l), Count(body))
	}
	body[0].Kind = api.Call
	if len(Flat(body)) != 1 || Count(body) != 1 {
		t.Error("a Call has statements in it")
	}
}

// P5.1, Memory: a copy is like it; each place of either may be written over, and the other one stays.
func TestCopyHasItsOwnLists(t *testing.T) {
	for _, m := range []api.Module{{}, sample()} {
		if c := Copy(m); !reflect.DeepEqual(c, m) {
			t.Errorf("a copy is %v, want %v", c, m)
		}
	}
	m := sample()
	c := Copy(m)
	for _, v := range places(reflect.ValueOf(&c).Elem()) {
		change(v)
	}
	if !reflect.DeepEqual(m, sample()) {
		t.Error("a copy was written over, and what was copied with it")
	}
	m = sample()
	c = Copy(m)
	for _, v := range places(reflect.ValueOf(&m).Elem()) {
		change(v)
	}
	if !reflect.DeepEqual(c, sample()) {
		t.Error("what was copied was written over, and the copy with it")
	}
}

// Memory: what is behind the end of a list that was handed in isn't written over by whoever appends to an answered one.
func TestAppendToAnswers(t *testing.T) {
	args := []api.Ref{{Kind: api.Local, ID: 1}, {Kind: api.Local, ID: 2}}
	stmts := []api.Stmt{{Kind: api.Move}, {Kind: api.Return}}
	globals := []int{4, 5}
	body := []api.Stmt{{Kind: api.Block, Args: args[:1], Body: stmts[:1]}}
	m := api.Module{Globals: globals[:1], Funcs: []api.Func{{Body: body}}}
	c, l := Copy(m), Flat(body)
	for _, s := range []api.Stmt{c.Funcs[0].Body[0], l[0].S} {
		_ = append(s.Args, api.Ref{})
		_ = append(s.Body, api.Stmt{})
	}
	_ = append(c.Globals, 0)
	_ = append(l[:1], Item{})
	if args[1].ID != 2 || stmts[1].Kind != api.Return || globals[1] != 5 {
		t.Errorf("%v, %v, %v", args, stmts, globals)
	}
}

// P5.1: a string by its number; beside them there is none.
func TestString(t *testing.T) {
	m := sample()
	for n, want := range map[int]string{
		0: "f", 1: "g", 2: "", 3: "x\xff",
		-1: "", 4: "", 5: "", math.MinInt: "", math.MaxInt: "",
	} {
		if got := String(m, n); got != want {
			t.Errorf("String %d is %q, want %q", n, got, want)
		}
	}
	if String(api.Module{}, 0) != "" || String(api.Module{Strings: []string{}}, 0) != "" {
		t.Error("a string of no strings")
	}
}

// P1: a module with nothing in it.
func TestOfNothing(t *testing.T) {
	checkEqual(t, "nothing", api.Module{}, api.Module{}, true)
	checkEqual(t, "nothing, something", api.Module{}, sample(), false)
	checkEqual(t, "a copy of nothing", Copy(api.Module{}), api.Module{}, true)
	if len(Flat(nil)) != 0 || Count(nil) != 0 {
		t.Error("statements of nothing")
	}
}

// P2, Memory: nothing that is asked changes what was handed in, and the same is answered again.
func TestSameAgain(t *testing.T) {
	m := sample()
	body := m.Funcs[0].Body
	first, copied := Flat(body), Copy(m)
	for range 3 {
		if !Equal(m, sample()) || !SameBody(body, sample().Funcs[0].Body) || Count(body) != len(first) {
			t.Error("another answer")
		}
		if !reflect.DeepEqual(Flat(body), first) || !reflect.DeepEqual(Copy(m), copied) || String(m, 1) != "g" {
			t.Error("another list")
		}
		if !reflect.DeepEqual(m, sample()) {
			t.Fatal("what was handed in has changed")
		}
	}
}
