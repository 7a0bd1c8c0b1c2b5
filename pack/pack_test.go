package pack

import (
	"bytes"
	"encoding/hex"
	"fmt"
	"math"
	"math/big"
	"reflect"
	"runtime/debug"
	"slices"
	"strconv"
	"strings"
	"testing"

	"weathervane/api"
	"weathervane/canon"
	"weathervane/module"
	"weathervane/parse"
	"weathervane/print"
	"weathervane/rule"
)

func local(n int) api.Ref  { return api.Ref{Kind: api.Local, ID: n} }
func global(n int) api.Ref { return api.Ref{Kind: api.Global, ID: n} }
func fun(n int) api.Ref    { return api.Ref{Kind: api.Fun, ID: n} }
func site(n int) api.Ref   { return api.Ref{Kind: api.Site, ID: n} }

func block(l ...api.Stmt) api.Stmt { return api.Stmt{Kind: api.Block, Body: l} }

func stmt(kind byte, a, b api.Ref, args ...api.Ref) api.Stmt {
	return api.Stmt{Kind: kind, A: a, B: b, Args: args}
}

var fine = api.Fault{Func: -1, Stmt: -1}

func bad(e api.Errno) api.Fault { return api.Fault{Err: e, Func: -1, Stmt: -1} }

func broken(r, fn, st int) api.Fault {
	return api.Fault{Err: api.ErrRule, Rule: r, Func: fn, Stmt: st}
}

// short: a module, or bytes, as a failing test tells it; all of it is ASCII, whatever the names are.
func short(x any) string {
	s := strconv.QuoteToASCII(fmt.Sprintf("%+v", x))
	return s[:min(len(s), 1500)]
}

// upTo: 0, 1, .. so many.
func upTo(n int) []int {
	var l []int
	for i := range n {
		l = append(l, i)
	}
	return l
}

// sealed is P2.1's Seal as it stands there, bit by bit.
func sealed(body string) []byte {
	rest := uint32(0xffffffff)
	for _, b := range []byte(body) {
		for i := 7; i >= 0; i-- {
			turn := rest>>31 != uint32(b)>>i&1
			rest *= 2
			if turn {
				rest ^= 0x04c11db7
			}
		}
	}
	return append([]byte(body), byte(rest>>24), byte(rest>>16), byte(rest>>8), byte(rest))
}

// number is P1.1's Put as it stands there.
func number(n uint64) string {
	s := string([]byte{byte(n % 128)})
	for n >= 128 {
		n /= 128
		s = string([]byte{byte(128 + n%128)}) + s
	}
	return s
}

func numbers(l []int) string {
	s := number(uint64(len(l)))
	for _, n := range l {
		s += number(uint64(n))
	}
	return s
}

func ref(r api.Ref) string {
	if r.Kind == api.None {
		return "\x00"
	}
	return number(4*uint64(r.ID) + uint64(r.Kind))
}

// body is P11.1's Body as it stands there, of statements of any kind.
func body(l []api.Stmt) string {
	s := number(uint64(len(l)))
	for _, x := range l {
		s += number(uint64(x.Kind))
		if x.Kind == api.Block {
			s += body(x.Body)
			continue
		}
		if x.Kind == api.Call {
			s += number(uint64(len(x.Args)))
			for _, r := range x.Args {
				s += ref(r)
			}
		}
		if x.Kind != api.Return {
			s += ref(x.A)
		}
		s += ref(x.B)
	}
	return s
}

// written is what P11.1 lets be sealed, of a module that may break rules, but has no number below 0.
func written(m api.Module) string {
	s := "WVM1" + number(uint64(len(m.Strings)))
	for _, x := range m.Strings {
		s += number(uint64(len(x))) + x
	}
	s += numbers(m.Globals) + number(uint64(len(m.Funcs)))
	for _, f := range m.Funcs {
		s += number(uint64(f.Name)) + number(uint64(f.Params)) + numbers(f.Locals) + numbers(f.Sites) + body(f.Body)
	}
	return s + numbers(m.Entries)
}

// checkBoth: the module has these bytes, and they are that module's, and no other's.
func checkBoth(t *testing.T, m api.Module, want []byte) {
	t.Helper()
	p, x := Encode(m)
	if x != fine || !bytes.Equal(p, want) {
		t.Errorf("Encode of %s: %+v, %s, want %s", short(m), x, short(p), short(want))
	}
	n, x := Decode(want)
	if x != fine || !module.Equal(n, m) {
		t.Errorf("Decode of %s: %+v, %s, want %s", short(want), x, short(n), short(m))
	}
	p, x = Encode(n)
	if x != fine || !bytes.Equal(p, want) {
		t.Errorf("Encode of what was decoded: %+v, %s, want %s", x, short(p), short(want))
	}
}

// checkRefused: the bytes tell no module, but this fault.
func checkRefused(t *testing.T, what string, p []byte, want api.Fault) {
	t.Helper()
	if m, x := Decode(p); x != want || !reflect.DeepEqual(m, api.Module{}) {
		t.Errorf("%s: %+v beside %s, want %+v", what, x, short(m), want)
	}
}

// checkBody: likewise, of bytes behind which their sum stands.
func checkBody(t *testing.T, what, b string, want api.Fault) {
	t.Helper()
	checkRefused(t, what, sealed(b), want)
}

// sample is a module with all that bytes may tell, made anew each time.
func sample() api.Module {
	return api.Module{
		Strings: []string{"a", "f", "g", "h", "x"},
		Globals: []int{2, 4},
		Funcs: []api.Func{
			{Name: 1, Params: 1, Locals: []int{0, 4}, Sites: []int{3, 1}, Body: []api.Stmt{
				stmt(api.Take, local(1), site(0)),
				block(
					stmt(api.Store, local(0), local(1)),
					block(),
					block(stmt(api.Load, global(1), local(0)), block(stmt(api.Move, local(1), global(0)))),
					stmt(api.Take, local(0), site(1)),
				),
				stmt(api.Call, local(1), fun(0), local(0)),
				stmt(api.Call, api.Ref{}, global(0), local(1), local(0)),
				stmt(api.Call, api.Ref{}, fun(1)),
				stmt(api.Return, api.Ref{}, local(0)),
			}},
			{Name: 3, Body: []api.Stmt{stmt(api.Call, global(0), global(1), global(1), global(0))}},
			{Name: 0, Sites: []int{0}},
			{Name: 2, Locals: []int{2}},
		},
		Entries: []int{1, 0},
	}
}

func with(change func(m *api.Module)) api.Module {
	m := sample()
	change(&m)
	return m
}

// put: the sample, with another statement in a body's place.
func put(fn, at int, s api.Stmt) api.Module {
	return with(func(m *api.Module) { m.Funcs[fn].Body[at] = s })
}

// bounds is as great as the rules let a module be.
func bounds() api.Module {
	var m api.Module
	for i := range 40 {
		m.Strings = append(m.Strings, strings.Repeat("\xff", 38)+fmt.Sprint(10+i))
	}
	all := upTo(40)
	m.Globals, m.Entries = all, slices.Clone(all)
	slices.Reverse(m.Entries)
	l := []api.Stmt{stmt(api.Call, local(39), fun(39), local(39), local(0), local(1), local(2), global(0), global(39))}
	l = append(slices.Repeat(l, 391), stmt(api.Take, local(39), site(39)))
	for range 8 {
		l = []api.Stmt{block(l...)}
	}
	for i := range 40 {
		m.Funcs = append(m.Funcs, api.Func{Name: 39 - i, Params: 6, Locals: all, Sites: all, Body: l})
	}
	return m
}

// P11.1, P11.2: bytes that are written by hand.
func TestByHand(t *testing.T) {
	for text, want := range map[string]string{
		"":                        "\x00 \x00 \x00 \x00",
		"global $g;":              "\x01 \x01g \x01\x00 \x00 \x00",
		"entry @f; func @f() { }": "\x01 \x01f \x00 \x01 \x00\x00 \x00 \x00 \x00 \x01\x00",
		"global $g; entry @f; func @f(%a) { var %x; site #h; %x = &#h; { *%a = %x; } %x = @f(%a); $g(%x, %a); return %a; }": "\x05 \x01a \x01f \x01g \x01h \x01x" +
			" \x01\x02 \x01 \x01\x01 \x02\x00\x04 \x01\x03 \x05" +
			" \x01\x05\x04" +
			" \x07\x01 \x04\x01\x05" +
			" \x05\x01\x01\x05\x03" +
			" \x05\x02\x05\x01\x00\x02" +
			" \x06\x01" +
			" \x01\x00",
	} {
		m, x := parse.Module([]byte(text))
		if x != fine {
			t.Fatalf("%q: %+v", text, x)
		}
		checkBoth(t, m, sealed("WVM1"+strings.ReplaceAll(want, " ", "")))
	}
	p, _ := Encode(api.Module{})
	if got := hex.EncodeToString(p); got != "57564d31000000009ea7f821" {
		t.Errorf("of nothing: %s", got)
	}
}

// P11.1, P11.2, P3: modules of all that there is, by the chapter's words.
func TestSamples(t *testing.T) {
	for _, m := range []api.Module{{}, sample(), bounds()} {
		if x := rule.Check(m); x != fine {
			t.Fatalf("%+v", x)
		}
		checkBoth(t, m, sealed(written(m)))
	}
	empty := api.Module{Strings: []string{}, Globals: []int{}, Funcs: []api.Func{}, Entries: []int{}}
	checkBoth(t, empty, sealed("WVM1\x00\x00\x00\x00"))
	empty.Strings = []string{"f"}
	empty.Funcs = []api.Func{{Locals: []int{}, Sites: []int{}, Body: []api.Stmt{{Kind: api.Block, Args: []api.Ref{}, Body: []api.Stmt{}}}}}
	checkBoth(t, empty, sealed("WVM1\x01\x01f\x00\x01\x00\x00\x00\x00\x01\x07\x00\x00"))
}

// P11.1: each kind of statement, with each kind of reference that it may have.
func TestStatements(t *testing.T) {
	p, v, g, k := local(0), local(39), global(0), global(39)
	none := api.Ref{}
	for _, c := range []struct {
		s    api.Stmt
		want string
	}{
		{stmt(api.Take, p, p), "\x01\x01\x01"},
		{stmt(api.Take, v, g), "\x01\x81\x1d\x02"},
		{stmt(api.Take, g, v), "\x01\x02\x81\x1d"},
		{stmt(api.Take, k, k), "\x01\x81\x1e\x81\x1e"},
		{stmt(api.Take, p, fun(0)), "\x01\x01\x03"},
		{stmt(api.Take, p, fun(39)), "\x01\x01\x81\x1f"},
		{stmt(api.Take, p, site(0)), "\x01\x01\x04"},
		{stmt(api.Take, p, site(1)), "\x01\x01\x08"},
		{stmt(api.Take, p, site(30)), "\x01\x01\x7c"},
		{stmt(api.Take, p, site(31)), "\x01\x01\x81\x00"},
		{stmt(api.Take, p, site(39)), "\x01\x01\x81\x20"},
		{stmt(api.Take, p, local(31)), "\x01\x01\x7d"},
		{stmt(api.Take, p, local(32)), "\x01\x01\x81\x01"},
		{stmt(api.Move, p, v), "\x02\x01\x81\x1d"},
		{stmt(api.Move, g, p), "\x02\x02\x01"},
		{stmt(api.Load, p, global(1)), "\x03\x01\x06"},
		{stmt(api.Load, global(2), local(1)), "\x03\x0a\x05"},
		{stmt(api.Store, p, g), "\x04\x01\x02"},
		{stmt(api.Store, g, p), "\x04\x02\x01"},
		{stmt(api.Call, none, g), "\x05\x00\x00\x02"},
		{stmt(api.Call, p, g), "\x05\x00\x01\x02"},
		{stmt(api.Call, g, fun(1)), "\x05\x00\x02\x07"},
		{stmt(api.Call, none, fun(0), p), "\x05\x01\x01\x00\x03"},
		{stmt(api.Call, none, p, g, v, g, k, p, p), "\x05\x06\x02\x81\x1d\x02\x81\x1e\x01\x01\x00\x01"},
		{stmt(api.Return, none, p), "\x06\x01"},
		{stmt(api.Return, none, k), "\x06\x81\x1e"},
		{block(), "\x07\x00"},
		{block(stmt(api.Return, none, p)), "\x07\x01\x06\x01"},
		{block(block(), stmt(api.Move, p, p)), "\x07\x02\x07\x00\x02\x01\x01"},
	} {
		m := bounds()
		for i := range m.Funcs {
			m.Funcs[i].Params = min(i+1, 6) * (1 - i%2)
			m.Funcs[i].Body = nil
		}
		for _, l := range [][]api.Stmt{{c.s}, {block(c.s, c.s), c.s}} {
			m.Funcs[0].Body = l
			checkBoth(t, m, sealed(written(m)))
			if p, _ := Encode(m); !strings.Contains(string(p), c.want) || !strings.HasSuffix(body([]api.Stmt{c.s}), "\x01"+c.want) {
				t.Errorf("%+v: no %x", c.s, c.want)
			}
		}
	}
}

// P11.1, P11.2: names of any bytes, of as many as there may be.
func TestNames(t *testing.T) {
	for _, s := range []string{"a", " ", "\x00", "\xff", "é", "WVM1", "\x80\x00", strings.Repeat("n", 40), strings.Repeat("\x80", 40)} {
		m := api.Module{Strings: []string{s}, Globals: []int{0}}
		checkBoth(t, m, sealed("WVM1\x01"+string([]byte{byte(len(s))})+s+"\x01\x00\x00\x00"))
	}
}

// P11.1: Check's faults, each with its place, and nothing beside them.
func TestEncodeFaults(t *testing.T) {
	for what, c := range map[string]struct {
		m    api.Module
		want api.Fault
	}{
		"a name below 0":            {with(func(m *api.Module) { m.Globals[1] = -1 }), broken(rule.Names, -1, -1)},
		"parameters below 0":        {with(func(m *api.Module) { m.Funcs[3].Params = -1 }), broken(rule.Params, 3, -1)},
		"an entry below 0":          {with(func(m *api.Module) { m.Entries[0] = -1 }), broken(rule.Entry, -1, -1)},
		"a reference below 0":       {put(0, 0, stmt(api.Move, local(0), local(-1))), broken(rule.Refs, 0, 0)},
		"a far reference":           {put(0, 0, stmt(api.Move, local(0), global(math.MaxInt))), broken(rule.Refs, 0, 0)},
		"a None with a number":      {put(1, 0, stmt(api.Return, api.Ref{ID: 1}, global(0))), broken(rule.Kinds, 1, 0)},
		"a Return with an A":        {put(1, 0, stmt(api.Return, global(0), global(0))), broken(rule.Kinds, 1, 0)},
		"a Block with a B":          {put(0, 5, api.Stmt{Kind: api.Block, B: local(0)}), broken(rule.Kinds, 0, 12)},
		"a Block with arguments":    {put(0, 5, api.Stmt{Kind: api.Block, Args: []api.Ref{local(0)}}), broken(rule.Kinds, 0, 12)},
		"a Move with arguments":     {put(1, 0, stmt(api.Move, global(0), global(0), global(0))), broken(rule.Kinds, 1, 0)},
		"a Move with a body":        {put(1, 0, api.Stmt{Kind: api.Move, A: global(0), B: global(0), Body: []api.Stmt{block()}}), broken(rule.Kinds, 1, 0)},
		"a reference of no kind":    {put(1, 0, stmt(api.Move, global(0), api.Ref{Kind: 5})), broken(rule.Kinds, 1, 0)},
		"strings in no order":       {with(func(m *api.Module) { m.Strings[0], m.Strings[1] = "f", "a" }), broken(rule.Strings, -1, -1)},
		"a string twice":            {with(func(m *api.Module) { m.Strings = append(m.Strings, "x") }), broken(rule.Strings, -1, -1)},
		"a string that isn't used":  {with(func(m *api.Module) { m.Strings = append(m.Strings, "y") }), broken(rule.Strings, -1, -1)},
		"a tree's fault goes ahead": {with(func(m *api.Module) { m.Strings, m.Entries = append(m.Strings, "y"), []int{4} }), broken(rule.Entry, -1, -1)},
	} {
		if p, x := Encode(c.m); x != c.want || p != nil {
			t.Errorf("%s: %+v beside %s, want %+v", what, x, short(p), c.want)
		}
	}
}

// P1: bodies that hold themselves have no bytes, and the call ends.
func TestEndlessBodies(t *testing.T) {
	once := []api.Stmt{block()}
	once[0].Body = once
	twice := []api.Stmt{block(), block()}
	twice[0].Body, twice[1].Body = twice, twice
	for _, body := range [][]api.Stmt{once, twice} {
		p, x := Encode(with(func(m *api.Module) { m.Funcs[1].Body = body }))
		if p != nil || x != broken(rule.Many, 1, -1) {
			t.Errorf("itself: %+v beside %s", x, short(p))
		}
	}
}

// P11.2: sum.Open's errors: fewer than four bytes; another sum, whatever stands ahead of it.
func TestDecodeSums(t *testing.T) {
	checkRefused(t, "nothing", nil, bad(api.ErrShort))
	p := sealed(written(sample()))
	for n := range p {
		want := bad(api.ErrSum)
		if n < 4 {
			want = bad(api.ErrShort)
		}
		checkRefused(t, "the beginning", p[:n], want)
		for bit := range 8 {
			q := bytes.Clone(p)
			q[n] ^= 1 << bit
			checkRefused(t, "a bit turned", q, bad(api.ErrSum))
		}
	}
	checkRefused(t, "no module, nor a sum", []byte("abcdefgh"), bad(api.ErrSum))
	checkRefused(t, "a byte more", append(bytes.Clone(p), 1), bad(api.ErrSum))
	// A sum's own bytes leave nothing of it: behind them, and zeros, it is the right one again.
	checkRefused(t, "a zero more", append(bytes.Clone(p), 0), bad(api.ErrForm))
	checkRefused(t, "sealed twice", sealed(string(p)), bad(api.ErrForm))
}

// P11.2: ErrForm: it begins otherwise.
func TestDecodeHeads(t *testing.T) {
	rest := "\x00\x00\x00\x00"
	for _, s := range []string{"", "W", "WVM", "WVM1", "WVM" + rest, "wvm1" + rest, "WVM2" + rest, "WVC1" + rest, "XVM1" + rest, " WVM1" + rest, rest, "WVM1" + rest[:3], "WVM1" + rest + "\x00", "WVM1WVM1" + rest} {
		checkBody(t, s, s, bad(api.ErrForm))
	}
	checkBoth(t, api.Module{}, sealed("WVM1"+rest))
}

// P11.2: ErrForm: it ends ahead of its end, or behind it.
func TestDecodeCuts(t *testing.T) {
	for _, m := range []api.Module{sample(), {Strings: []string{strings.Repeat("long", 10)}, Globals: []int{0}}} {
		s := written(m)
		for n := range s {
			checkBody(t, "the beginning", s[:n], bad(api.ErrForm))
		}
		for _, more := range []string{"\x00", "\x01", "\x80", "W", s} {
			checkBody(t, "more", s+more, bad(api.ErrForm))
		}
	}
}

// parts is what a module is written with, number by number and string by string.
func parts() []string {
	return []string{
		"\x02", "\x01", "f", "\x01", "g", // 0: the strings
		"\x01", "\x01", // 5: the globals
		"\x01", "\x00", "\x00", "\x01", "\x00", "\x01", "\x01", // 7: the functions; its name, parameters, locals, sites
		"\x04",                                 // 14: its body
		"\x07", "\x01", "\x02", "\x01", "\x02", // 15: a block with a Move
		"\x05", "\x01", "\x01", "\x00", "\x02", // 20: a Call
		"\x01", "\x01", "\x04", // 25: a Take
		"\x06", "\x01", // 28: a Return
		"\x01", "\x00", // 30: the entries
	}
}

// other: what is written so, but for one part.
func other(n int, part string) string {
	l := parts()
	l[n] = part
	return "WVM1" + strings.Join(l, "")
}

// P11.2: ErrForm: at each place a number that coil.Put makes otherwise, one of more than 64 bits, one that doesn't end.
func TestDecodeNumbers(t *testing.T) {
	m, x := parse.Module([]byte("global $g; entry @f; func @f() { var %f; site #g; { %f = $g; } $g(%f); %f = &#g; return %f; }"))
	if x != fine {
		t.Fatalf("%+v", x)
	}
	checkBoth(t, m, sealed(other(0, "\x02")))
	for n, was := range parts() {
		if was == "f" || was == "g" {
			continue
		}
		for _, s := range []string{"\x80" + was, "\x80\x80" + was, "\x82" + strings.Repeat("\xff", 8) + "\x7f", strings.Repeat("\xff", 11), strings.Repeat("\xff", 200)} {
			checkBody(t, fmt.Sprintf("%x as part %d", s, n), other(n, s), bad(api.ErrForm))
		}
	}
}

// P11.2: ErrForm: there are more of a list than bytes are left.
func TestDecodeCounts(t *testing.T) {
	for what, n := range map[string]int{"strings": 0, "bytes": 1, "globals": 5, "functions": 7, "locals": 10, "sites": 12, "statements": 14, "in a block": 16, "arguments": 21, "entries": 30} {
		for _, many := range []uint64{36, 1000, 1 << 31, 1 << 40, math.MaxInt, math.MaxInt + 1, math.MaxUint64} {
			checkBody(t, fmt.Sprintf("%d %s", many, what), other(n, number(many)), bad(api.ErrForm))
		}
	}
}

// P11.2: numbers that no module can have aren't written so; those that one can have, far as they are, are the rules' matter.
func TestDecodeGreatNumbers(t *testing.T) {
	for what, c := range map[string]struct {
		part int
		want api.Fault
	}{
		"a global":   {6, broken(rule.Names, -1, -1)},
		"a name":     {8, broken(rule.Names, -1, -1)},
		"parameters": {9, broken(rule.Params, 0, -1)},
		"a local":    {11, broken(rule.Names, 0, -1)},
		"a site":     {13, broken(rule.Names, 0, -1)},
		"an entry":   {31, broken(rule.Entry, -1, -1)},
	} {
		for _, n := range []uint64{2, 255, 256, 1 << 32, math.MaxInt} {
			checkBody(t, what, other(c.part, number(n)), c.want)
		}
		for _, n := range []uint64{math.MaxInt + 1, math.MaxInt + 2, math.MaxUint64} {
			checkBody(t, what+" beyond", other(c.part, number(n)), bad(api.ErrForm))
		}
	}
}

// P11.2: of a reference all kinds and numbers may be written.
func TestDecodeFarReferences(t *testing.T) {
	for what, c := range map[string]struct {
		part, stmt int
		fun, site  int // the rules that a function, and a site, in this place break
	}{
		"an A":           {18, 1, rule.Kinds, rule.Kinds},
		"a B":            {19, 1, rule.Kinds, rule.Kinds},
		"an argument":    {22, 2, rule.Kinds, rule.Kinds},
		"what is called": {24, 2, rule.Refs, rule.Kinds},
		"what is taken":  {27, 3, rule.Refs, rule.Refs},
		"a Return's":     {29, 4, rule.Kinds, rule.Kinds},
	} {
		for _, id := range []uint64{1, 31, 1 << 32, 1<<62 - 1} {
			for kind, r := range map[byte]int{api.Local: rule.Refs, api.Global: rule.Refs, api.Fun: c.fun, api.Site: c.site} {
				if kind == api.Site && id == 1<<62-1 {
					continue // no number of 64 bits
				}
				checkBody(t, fmt.Sprintf("%s %d of kind %d", what, id, kind), other(c.part, number(4*id+uint64(kind))), broken(r, 0, c.stmt))
			}
		}
	}
}

// P11.2: a kind that there isn't has an A and a B, and breaks a rule; one that is no byte isn't written so.
func TestDecodeKinds(t *testing.T) {
	for _, n := range []uint64{0, 8, 9, 127, 128, 255} {
		checkBody(t, "no kind", other(25, number(n)), broken(rule.Kinds, 0, 3))
		one := "WVM1\x01\x01f\x00\x01\x00\x00\x00\x00\x01" + number(n)
		checkBody(t, "no kind, without a B", one+"\x00\x00", bad(api.ErrForm))
		checkBody(t, "no kind, with a B", one+"\x00\x00\x00", broken(rule.Kinds, 0, 0))
	}
	for _, n := range []uint64{256, 256 + 1, 256 + 7, 1 << 32, 1<<32 + 1, 1<<63 + 1, math.MaxUint64} {
		checkBody(t, "no byte", other(25, number(n)), bad(api.ErrForm))
	}
	for n := uint64(1); n < 5; n++ {
		want := broken(rule.Kinds, 0, 3) // but a Take's B is no site
		if n == 1 {
			want = fine
		}
		if _, x := Decode(sealed(other(25, number(n)))); x != want {
			t.Errorf("kind %d: %+v, want %+v", n, x, want)
		}
	}
}

// P11.2: the rules' faults, each with its place, and nothing beside them; what isn't written so goes ahead of all of them.
func TestDecodeRules(t *testing.T) {
	for what, c := range map[string]struct {
		m    api.Module
		want api.Fault
	}{
		"an entry of nothing":        {api.Module{Entries: []int{0}}, broken(rule.Entry, -1, -1)},
		"a name of no string":        {api.Module{Globals: []int{0}}, broken(rule.Names, -1, -1)},
		"an empty name":              {with(func(m *api.Module) { m.Strings[3] = "" }), broken(rule.Names, -1, -1)},
		"a name of 41 bytes":         {with(func(m *api.Module) { m.Strings[4] = strings.Repeat("x", 41) }), broken(rule.Names, -1, -1)},
		"a global twice":             {with(func(m *api.Module) { m.Globals[1] = 2 }), broken(rule.Twice, -1, -1)},
		"a function twice":           {with(func(m *api.Module) { m.Funcs[2].Name = 1 }), broken(rule.Twice, -1, -1)},
		"a local twice":              {with(func(m *api.Module) { m.Funcs[0].Locals[1] = 0 }), broken(rule.Twice, 0, -1)},
		"41 globals":                 {with(func(m *api.Module) { m.Globals = make([]int, 41) }), broken(rule.Many, -1, -1)},
		"41 functions":               {with(func(m *api.Module) { m.Funcs = make([]api.Func, 41) }), broken(rule.Many, -1, -1)},
		"41 locals":                  {with(func(m *api.Module) { m.Funcs[3].Locals = make([]int, 41) }), broken(rule.Many, 3, -1)},
		"401 statements":             {with(func(m *api.Module) { m.Funcs[1].Body = slices.Repeat([]api.Stmt{block()}, 401) }), broken(rule.Many, 1, -1)},
		"parameters that aren't":     {with(func(m *api.Module) { m.Funcs[3].Params = 2 }), broken(rule.Params, 3, -1)},
		"an entry that isn't there":  {with(func(m *api.Module) { m.Entries[0] = 4 }), broken(rule.Entry, -1, -1)},
		"an entry twice":             {with(func(m *api.Module) { m.Entries[0] = 0 }), broken(rule.Twice, -1, -1)},
		"a Move to none":             {put(0, 0, stmt(api.Move, api.Ref{}, local(0))), broken(rule.Kinds, 0, 0)},
		"a Return of none":           {put(0, 5, stmt(api.Return, api.Ref{}, api.Ref{})), broken(rule.Kinds, 0, 12)},
		"a call of a site":           {put(1, 0, stmt(api.Call, api.Ref{}, site(0))), broken(rule.Kinds, 1, 0)},
		"an argument that is none":   {put(1, 0, stmt(api.Call, api.Ref{}, global(0), api.Ref{})), broken(rule.Kinds, 1, 0)},
		"a local that isn't there":   {put(1, 0, stmt(api.Move, global(0), local(0))), broken(rule.Refs, 1, 0)},
		"an argument that's missing": {put(0, 3, stmt(api.Call, api.Ref{}, fun(0))), broken(rule.Arity, 0, 10)},
		"seven arguments":            {put(1, 0, stmt(api.Call, api.Ref{}, global(0), slices.Repeat([]api.Ref{global(1)}, 7)...)), broken(rule.Arity, 1, 0)},
		"many arguments":             {put(1, 0, stmt(api.Call, api.Ref{}, global(0), slices.Repeat([]api.Ref{global(1)}, 7000)...)), broken(rule.Arity, 1, 0)},
		"strings in no order":        {with(func(m *api.Module) { m.Strings[0], m.Strings[1] = "f", "a" }), broken(rule.Strings, -1, -1)},
		"a string twice":             {with(func(m *api.Module) { m.Strings = append(m.Strings, "x") }), broken(rule.Strings, -1, -1)},
		"a string that isn't used":   {with(func(m *api.Module) { m.Strings = append(m.Strings, strings.Repeat("y", 9000)) }), broken(rule.Strings, -1, -1)},
		"strings alone":              {api.Module{Strings: []string{"a"}}, broken(rule.Strings, -1, -1)},
	} {
		s := written(c.m)
		checkBody(t, what, s, c.want)
		checkBody(t, what+", and cut off", s[:len(s)-1], bad(api.ErrForm))
		checkBody(t, what+", and more", s+"\x00", bad(api.ErrForm))
		if x := rule.Check(c.m); x != c.want {
			t.Errorf("%s: Check tells %+v, want %+v", what, x, c.want)
		}
	}
}

// nested is a module whose one function has so many blocks, each in the one ahead of it.
func nested(many int) string {
	return "WVM1\x01\x01f\x00\x01\x00\x00\x00\x00" + strings.Repeat("\x01\x07", many) + "\x00\x00"
}

// P11.2: blocks in one another, as many as may be, and more.
func TestDecodeDeep(t *testing.T) {
	m := api.Module{Strings: []string{"f"}, Funcs: []api.Func{{}}}
	for n := range 10 {
		checkBoth(t, m, sealed(nested(n)))
		m.Funcs[0].Body = []api.Stmt{block(m.Funcs[0].Body...)}
	}
	checkBody(t, "nine blocks and one in them", nested(10), broken(rule.Deep, 0, 9))
	checkBody(t, "400 blocks", nested(400), broken(rule.Deep, 0, 9))
	checkBody(t, "401 blocks", nested(401), broken(rule.Many, 0, -1))
	checkBody(t, "1001 blocks", nested(1001), broken(rule.Many, 0, -1))
}

// P1: bytes may tell as many blocks in one another as there are bytes: no stack grows with them.
func TestDecodeVeryDeep(t *testing.T) {
	defer debug.SetMaxStack(debug.SetMaxStack(1 << 20))
	s := nested(300000)
	checkBody(t, "very deep", s, broken(rule.Many, 0, -1))
	checkBody(t, "very deep, and cut off", s[:len(s)-1], bad(api.ErrForm))
	checkBody(t, "very deep, and more", s+"\x00", bad(api.ErrForm))
}

// P1: a fault deep in blocks ends all of them at once, though each has many statements to come.
func TestDecodeDeepFault(t *testing.T) {
	s := "WVM1\x01\x01f\x00\x01\x00\x00\x00\x00" + strings.Repeat(number(200000)+"\x07", 200000)
	checkBody(t, "cut off", s+strings.Repeat("\x00", 200000), bad(api.ErrForm))
	checkBody(t, "no number", s+"\x80", bad(api.ErrForm))
}

// P1: of many a thing, too, which rules refuse.
func TestDecodeMany(t *testing.T) {
	many := 300000
	zeros := strings.Repeat("\x00", many)
	n := number(uint64(many))
	checkBody(t, "strings", "WVM1"+n+zeros+"\x00\x00\x00", broken(rule.Strings, -1, -1))
	checkBody(t, "globals", "WVM1\x00"+n+zeros+"\x00\x00", broken(rule.Many, -1, -1))
	checkBody(t, "functions", "WVM1\x00\x00"+n+strings.Repeat(zeros, 5)+"\x00", broken(rule.Many, -1, -1))
	checkBody(t, "entries", "WVM1\x00\x00\x00"+n+zeros, broken(rule.Many, -1, -1))
	head := "WVM1\x01\x01f\x00\x01\x00\x00"
	checkBody(t, "locals", head+n+zeros+"\x00\x00\x00", broken(rule.Many, 0, -1))
	checkBody(t, "sites", head+"\x00"+n+zeros+"\x00\x00", broken(rule.Many, 0, -1))
	checkBody(t, "statements", head+"\x00\x00"+n+strings.Repeat("\x07\x00", many)+"\x00", broken(rule.Many, 0, -1))
	checkBody(t, "arguments", head+"\x00\x00\x01\x05"+n+zeros+"\x00\x00\x00", broken(rule.Kinds, 0, 0))
}

// slow reads what is written so, as P11.1 stands there, by calls in calls; of what isn't, it panics.
type slow struct{ rest string }

type notSo struct{}

// next: a number of up to most.
func (s *slow) next(most uint64) uint64 {
	n := new(big.Int)
	for i := 0; ; i++ {
		if s.rest == "" || i == 0 && s.rest[0] == 128 {
			panic(notSo{})
		}
		b := s.rest[0]
		s.rest = s.rest[1:]
		n.Lsh(n, 7).Add(n, big.NewInt(int64(b%128)))
		if n.BitLen() > 64 {
			panic(notSo{})
		}
		if b < 128 && n.Uint64() > most {
			panic(notSo{})
		}
		if b < 128 {
			return n.Uint64()
		}
	}
}

func (s *slow) times(one func()) {
	for n := s.next(math.MaxUint64); n > 0; n-- {
		one()
	}
}

func (s *slow) numbers() (l []int) {
	s.times(func() { l = append(l, int(s.next(math.MaxInt))) })
	return l
}

func (s *slow) ref() api.Ref {
	n := s.next(math.MaxUint64)
	for kind := uint64(1); kind <= 4 && n > 0; kind++ {
		if (n-kind)%4 == 0 {
			return api.Ref{Kind: byte(kind), ID: int((n - kind) / 4)}
		}
	}
	return api.Ref{}
}

func (s *slow) body() (l []api.Stmt) {
	s.times(func() {
		x := api.Stmt{Kind: byte(s.next(255))}
		switch x.Kind {
		case api.Block:
			x.Body = s.body()
			l = append(l, x)
			return
		case api.Call:
			s.times(func() { x.Args = append(x.Args, s.ref()) })
			x.A = s.ref()
		case api.Return:
		default:
			x.A = s.ref()
		}
		x.B = s.ref()
		l = append(l, x)
	})
	return l
}

func (s *slow) module() (m api.Module) {
	s.times(func() {
		n := s.next(math.MaxUint64)
		if n > uint64(len(s.rest)) {
			panic(notSo{})
		}
		m.Strings = append(m.Strings, s.rest[:n])
		s.rest = s.rest[n:]
	})
	m.Globals = s.numbers()
	s.times(func() {
		f := api.Func{Name: int(s.next(math.MaxInt)), Params: int(s.next(math.MaxInt))}
		f.Locals, f.Sites, f.Body = s.numbers(), s.numbers(), s.body()
		m.Funcs = append(m.Funcs, f)
	})
	m.Entries = s.numbers()
	return m
}

// byChapter is P11.2's Decode of what is sealed, as it stands there.
func byChapter(b string) (m api.Module, x api.Fault) {
	defer func() {
		if e := recover(); e == (notSo{}) {
			m, x = api.Module{}, bad(api.ErrForm)
		} else if e != nil {
			panic(e)
		}
	}()
	rest, ok := strings.CutPrefix(b, "WVM1")
	s := &slow{rest}
	if !ok {
		panic(notSo{})
	}
	m = s.module()
	if s.rest != "" {
		panic(notSo{})
	}
	if x = rule.Check(m); x != fine {
		m = api.Module{}
	}
	return m, x
}

// checkLike: Decode answers what the chapter says; and if that is a module, it has just these bytes (P4). Is it one?
func checkLike(t *testing.T, b string) bool {
	t.Helper()
	want, fault := byChapter(b)
	p := sealed(b)
	m, x := Decode(p)
	if x != fault || !module.Equal(m, want) || x != fine && !reflect.DeepEqual(m, api.Module{}) {
		t.Fatalf("Decode of %x: %+v, %s, want %+v, %s", b, x, short(m), fault, short(want))
	}
	if x != fine {
		return false
	}
	if q, y := Encode(m); y != fine || !bytes.Equal(p, q) {
		t.Fatalf("%x is told as %s, which is written %x, %+v", p, short(m), q, y)
	}
	return true
}

// P11.2, P4: all that a few bytes can tell.
func TestDecodeFewBytes(t *testing.T) {
	right := 0
	var try func(b string, more int)
	try = func(b string, more int) {
		if checkLike(t, b) {
			right++
		}
		for _, c := range []byte{0, 1, 2, 'a', 128, 129} {
			if more > 0 {
				try(b+string([]byte{c}), more-1)
			}
		}
	}
	try("WVM1", 7)
	if right < 4 {
		t.Errorf("only %d were right", right)
	}
}

// P11.2, P4: all bodies of a few bytes.
func TestDecodeFewStatements(t *testing.T) {
	right := 0
	var try func(b string, more int)
	try = func(b string, more int) {
		if checkLike(t, "WVM1\x01\x01f\x01\x00\x01\x00\x01\x01\x00\x01\x00"+b+"\x00") {
			right++
		}
		for c := range byte(9) {
			if more > 0 {
				try(b+string([]byte{c}), more-1)
			}
		}
	}
	try("", 5)
	if right < 60 {
		t.Errorf("only %d were right", right)
	}
}

// dice tells a row of numbers that is the same each time.
type dice uint32

func (d *dice) below(n int) int {
	*d = *d*1664525 + 1013904223
	return int(*d>>8) % n
}

// maker makes modules that break no rule.
type maker struct {
	d dice
	m api.Module
}

// some: up to so many of the strings, each once.
func (x *maker) some(most int) []int {
	l := upTo(len(x.m.Strings))
	for i := range l {
		j := i + x.d.below(len(l)-i)
		l[i], l[j] = l[j], l[i]
	}
	return l[:x.d.below(most+1)]
}

// pick: a reference to one of so many things; none, if there are none.
func (x *maker) pick(kind byte, many int) api.Ref {
	if many == 0 {
		return api.Ref{}
	}
	return api.Ref{Kind: kind, ID: x.d.below(many)}
}

// variable: there must be one.
func (x *maker) variable(f api.Func) api.Ref {
	if len(f.Locals) == 0 || len(x.m.Globals) > 0 && x.d.below(2) == 0 {
		return x.pick(api.Global, len(x.m.Globals))
	}
	return x.pick(api.Local, len(f.Locals))
}

func (x *maker) statement(f api.Func, deep int) api.Stmt {
	a, b := x.variable(f), x.variable(f)
	kind := byte(1 + x.d.below(8-deep/api.MaxDeep*2))
	switch kind {
	case api.Take:
		if o := x.pick(api.Site, len(f.Sites)); x.d.below(2) == 0 && o.Kind != api.None {
			b = o
		} else if x.d.below(2) == 0 {
			b = x.pick(api.Fun, len(x.m.Funcs))
		}
	case api.Call:
		s := stmt(kind, a, b)
		many := x.d.below(api.MaxArgs + 1)
		if x.d.below(2) == 0 {
			s.B = x.pick(api.Fun, len(x.m.Funcs))
			many = x.m.Funcs[s.B.ID].Params
		}
		if x.d.below(2) == 0 {
			s.A = api.Ref{}
		}
		for range many {
			s.Args = append(s.Args, x.variable(f))
		}
		return s
	case api.Return:
		a = api.Ref{}
	case api.Block, api.Block + 1:
		return block(x.body(f, deep+1)...)
	}
	return stmt(kind, a, b)
}

func (x *maker) body(f api.Func, deep int) []api.Stmt {
	var l []api.Stmt
	if len(f.Locals)+len(x.m.Globals) > 0 {
		for range x.d.below(6) {
			l = append(l, x.statement(f, deep))
		}
	}
	return l
}

// make makes a module: its strings are those that are used.
func (x *maker) make(t *testing.T) api.Module {
	for i := range 45 {
		x.m.Strings = append(x.m.Strings, strings.Repeat(string([]byte{byte(x.d.below(256))}), x.d.below(39))+string([]byte{byte(i)}))
	}
	slices.Sort(x.m.Strings)
	x.m.Strings = slices.Compact(x.m.Strings)
	sizes := []int{1, 3, 12, 40}
	x.m.Globals = x.some(sizes[x.d.below(4)])
	for _, n := range x.some(sizes[x.d.below(4)]) {
		f := api.Func{Name: n, Locals: x.some(sizes[x.d.below(4)]), Sites: x.some(sizes[x.d.below(4)])}
		f.Params = x.d.below(min(len(f.Locals), api.MaxArgs) + 1)
		x.m.Funcs = append(x.m.Funcs, f)
	}
	for n := range x.m.Funcs {
		if x.d.below(2) == 0 {
			x.m.Entries = slices.Insert(x.m.Entries, x.d.below(len(x.m.Entries)+1), n)
		}
	}
	for i, f := range x.m.Funcs {
		x.m.Funcs[i].Body = x.body(f, 0)
	}
	c, fault := canon.Of(x.m)
	if fault != fine {
		t.Fatalf("the maker's own fault: %+v", fault)
	}
	return c
}

// P3, P11.1, P11.2: modules of all sorts, by the chapter's words; what is decoded is what their text tells, too.
func TestAnyModules(t *testing.T) {
	for i := range dice(400) {
		x := maker{d: i}
		m := x.make(t)
		checkBoth(t, m, sealed(written(m)))
		p, _ := Encode(m)
		n, _ := Decode(p)
		text, _ := print.Text(m)
		again, _ := print.Text(n)
		if !bytes.Equal(text, again) {
			t.Errorf("module %d has another text", i)
		}
		if t.Failed() {
			return
		}
	}
}

// P11.2, P4: bytes with a few of them changed, put in, taken out.
func TestDecodeAnything(t *testing.T) {
	odd := []byte{0, 1, 2, 3, 4, 5, 6, 7, 8, 40, 41, 127, 128, 129, 255}
	right := 0
	for i := range dice(30000) {
		d := i*7919 + 1
		m := sample()
		if d.below(3) == 0 {
			x := maker{d: i % 16}
			m = x.make(t)
		}
		b := []byte(written(m))
		for range 1 + d.below(3) {
			at := d.below(len(b))
			c := odd[d.below(len(odd))]
			switch d.below(6) {
			case 0:
				b = slices.Insert(b, at, c)
			case 1:
				b = slices.Delete(b, at, at+1)
			case 2:
				b[at]++
			case 3:
				b[at]--
			default:
				b[at] = c
			}
		}
		if checkLike(t, string(b)) {
			right++
		}
	}
	if right < 1000 {
		t.Errorf("only %d were right", right)
	}
}

// Memory: what is handed in isn't changed, and what is answered shares nothing with it.
func TestOwnMemory(t *testing.T) {
	m := sample()
	p, _ := Encode(m)
	if !reflect.DeepEqual(m, sample()) {
		t.Error("Encode changes its module")
	}
	m.Globals[0], m.Funcs[0].Locals[0], m.Funcs[0].Body[0].Kind, m.Funcs[0].Body[2].Args[0].ID = 9, 9, 9, 9
	want := sealed(written(sample()))
	if !bytes.Equal(p, want) {
		t.Error("the bytes change with their module")
	}
	n, _ := Decode(p)
	if !bytes.Equal(p, want) {
		t.Error("Decode changes its bytes")
	}
	for i := range p {
		p[i] = 'z'
	}
	if !module.Equal(n, sample()) {
		t.Error("the module changes with its bytes")
	}
}

// numberLists: all the lists of numbers that a module has.
func numberLists(m api.Module) []*[]int {
	l := []*[]int{&m.Globals, &m.Entries}
	for i := range m.Funcs {
		l = append(l, &m.Funcs[i].Locals, &m.Funcs[i].Sites)
	}
	return l
}

// bodies: all the bodies in one, itself too.
func bodies(body []api.Stmt) [][]api.Stmt {
	l := [][]api.Stmt{body}
	for _, s := range body {
		if s.Kind == api.Block {
			l = append(l, bodies(s.Body)...)
		}
	}
	return l
}

// Memory: no two lists that are told share any: each may be appended to.
func TestListsApart(t *testing.T) {
	m, _ := Decode(sealed(written(sample())))
	_ = append(m.Strings, "mine")
	_ = append(m.Funcs, api.Func{Name: 99})
	for _, l := range numberLists(m) {
		_ = append(*l, 99, 99, 99)
	}
	for _, f := range m.Funcs {
		for _, l := range bodies(f.Body) {
			_ = append(l, api.Stmt{Kind: 99}, api.Stmt{Kind: 99})
			for _, s := range l {
				_ = append(s.Args, local(99), local(99))
			}
		}
	}
	if !module.Equal(m, sample()) {
		t.Errorf("what is appended to one list is in another one: %s", short(m))
	}
	n, _ := Decode(sealed(written(sample())))
	for _, l := range numberLists(n) {
		clear(*l)
	}
	if !module.Equal(m, sample()) {
		t.Error("two answers share a list")
	}
}

// P2: the same is answered again, whatever was asked in between.
func TestSameAgain(t *testing.T) {
	for range 3 {
		checkBoth(t, sample(), sealed(written(sample())))
		checkBody(t, "cut off", "WVM1\x01", bad(api.ErrForm))
		checkBoth(t, api.Module{}, sealed("WVM1\x00\x00\x00\x00"))
		if p, x := Encode(api.Module{Strings: []string{"a"}}); p != nil || x != broken(rule.Strings, -1, -1) {
			t.Errorf("%x, %+v", p, x)
		}
	}
}
