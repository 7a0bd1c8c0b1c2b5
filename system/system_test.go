package system

import (
	"math"
	"reflect"
	"slices"
	"testing"

	"weathervane/api"
)

// sample is a system that is Right, with something of each kind, made anew each time.
func sample() api.System {
	return api.System{
		Vars: 6,
		Cells: []api.Cell{
			{Var: 4},
			{Fun: true, Var: 1, Args: []int{2, 0}},
			{Fun: true, Var: 5},
		},
		Cons: []api.Con{
			{Kind: api.Base, A: 3, B: 2},
			{Kind: api.Copy, A: 0, B: 3},
			{Kind: api.From, A: 5, B: 0},
			{Kind: api.Into, A: 2, B: 1},
			{Kind: api.Apply, A: 3, B: 0, Args: []int{-1, 5, 0}},
			{Kind: api.Apply, A: -1, B: 5},
		},
	}
}

// dice tells numbers that look like chance, the same ones each time.
type dice uint64

func (d *dice) roll(n int) int {
	*d = *d*6364136223846793005 + 1442695040888963407
	return int(uint64(*d) >> 33 % uint64(n))
}

// number: one from low on and below beyond; seldom the one below low, or beyond itself.
func (d *dice) number(low, beyond int) int {
	if d.roll(12) == 0 || beyond <= low {
		return []int{low - 1, beyond}[d.roll(2)]
	}
	return low + d.roll(beyond-low)
}

// numbers: up to so many of them.
func (d *dice) numbers(most, low, beyond int) []int {
	var l []int
	for range d.roll(most + 1) {
		l = append(l, d.number(low, beyond))
	}
	return l
}

// system: one that is Right, or nearly so: most numbers are of what is there, or just beyond.
func (d *dice) system() api.System {
	s := api.System{Vars: d.roll(5)}
	for range d.roll(3) {
		c := api.Cell{Fun: d.roll(2) == 0, Var: d.number(0, s.Vars)}
		if c.Fun || d.roll(8) == 0 {
			c.Args = d.numbers(2, 0, s.Vars)
		}
		s.Cells = append(s.Cells, c)
	}
	for range d.roll(3) {
		c := api.Con{Kind: byte(1 + d.roll(5)), A: d.number(0, s.Vars), B: d.number(0, s.Vars)}
		switch {
		case c.Kind == api.Base:
			c.B = d.number(0, len(s.Cells))
		case c.Kind == api.Apply:
			c.A = d.number(-1, s.Vars)
			c.Args = d.numbers(2, -1, s.Vars)
		case d.roll(8) == 0:
			c.Args = []int{0}
		}
		s.Cons = append(s.Cons, c)
	}
	return s
}

// wild: a system of any numbers at all.
func (d *dice) wild() api.System {
	number := func() int {
		l := []int{math.MinInt, math.MinInt + 1, -1 << 31, -2, -1, 0, 1, 2, 1 << 14, 1 << 17, 1 << 31, 1 << 32, math.MaxInt}
		return l[d.roll(len(l))]
	}
	numbers := func() []int {
		var l []int
		for range d.roll(9) {
			l = append(l, number())
		}
		return l
	}
	vars := []int{math.MinInt, -1, 0, 1, 3, 1 << 14, 1<<14 + 1, 1 << 20}
	s := api.System{Vars: vars[d.roll(len(vars))]}
	for range d.roll(4) {
		s.Cells = append(s.Cells, api.Cell{Fun: d.roll(2) == 0, Var: number(), Args: numbers()})
	}
	for range d.roll(4) {
		s.Cons = append(s.Cons, api.Con{Kind: byte(d.roll(256)), A: number(), B: number(), Args: numbers()})
	}
	return s
}

// cloned: a system with lists of its own.
func cloned(s api.System) api.System {
	s.Cells = slices.Clone(s.Cells)
	for i, c := range s.Cells {
		s.Cells[i].Args = slices.Clone(c.Args)
	}
	s.Cons = slices.Clone(s.Cons)
	for i, c := range s.Cons {
		s.Cons[i].Args = slices.Clone(c.Args)
	}
	return s
}

// named: from which number on, and below which, each number in a system must be, by P12.1's words.
type named struct {
	value, low, beyond int
}

// names: all numbers of a system, but Vars, and where they must be; of a constraint whose kind there isn't: none.
func names(s api.System) []named {
	var l []named
	variables := func(low int, values ...int) {
		for _, v := range values {
			l = append(l, named{v, low, s.Vars})
		}
	}
	for _, c := range s.Cells {
		variables(0, c.Var)
		variables(0, c.Args...)
	}
	for _, c := range s.Cons {
		switch c.Kind {
		case 1: // Base
			variables(0, c.A)
			l = append(l, named{c.B, 0, len(s.Cells)})
		case 2, 3, 4: // Copy, From, Into
			variables(0, c.A, c.B)
		case 5: // Apply
			variables(0, c.B)
			variables(-1, c.A)
			variables(-1, c.Args...)
		}
	}
	return l
}

// rightByWords is Right as P12.1's last sentence has it, clause by clause.
func rightByWords(s api.System) bool {
	right := 0 <= s.Vars && s.Vars <= 16384
	right = right && len(s.Cells) <= 16384
	right = right && len(s.Cons) <= 131072
	for _, n := range names(s) {
		right = right && n.low <= n.value && n.value < n.beyond
	}
	for _, c := range s.Cells {
		right = right && (c.Fun || len(c.Args) == 0) && len(c.Args) <= 6
	}
	for _, c := range s.Cons {
		right = right && 1 <= c.Kind && c.Kind <= 5
		right = right && (c.Kind == 5 || len(c.Args) == 0) && len(c.Args) <= 6
	}
	return right
}

// looseByWords is Loose as P12.2 has it: of each variable, all that is in the system is looked at anew.
func looseByWords(s api.System) []bool {
	var l []bool
	for v := range max(s.Vars, 0) {
		is := false
		for _, c := range s.Cells {
			is = is || c.Var == v || slices.Contains(c.Args, v)
		}
		for _, c := range s.Cons {
			is = is || c.Kind == api.Apply && c.A == v
		}
		l = append(l, is)
	}
	return l
}

func checkRight(t *testing.T, what string, s api.System, want bool) {
	t.Helper()
	if Right(s) != want {
		t.Errorf("%s: Right is %v", what, !want)
	}
}

// checkCell holds one object alone, in a system of three variables.
func checkCell(t *testing.T, c api.Cell, want bool) {
	t.Helper()
	if Right(api.System{Vars: 3, Cells: []api.Cell{c}}) != want {
		t.Errorf("object %+v: Right is %v", c, !want)
	}
}

// checkCon holds one constraint alone, in a system of three variables and two objects.
func checkCon(t *testing.T, c api.Con, want bool) {
	t.Helper()
	if Right(api.System{Vars: 3, Cells: []api.Cell{{Var: 2}, {Fun: true}}, Cons: []api.Con{c}}) != want {
		t.Errorf("constraint %+v: Right is %v", c, !want)
	}
}

// P12.1: what is ordinary; the chapter's example; nothing at all; of no variables there is none to be named.
func TestRight(t *testing.T) {
	checkRight(t, "sample", sample(), true)
	base := []api.Con{{Kind: api.Base}}
	checkRight(t, "a Base, and its object", api.System{Vars: 1, Cells: []api.Cell{{}}, Cons: base}, true)
	checkRight(t, "a Base, and no object", api.System{Vars: 1, Cons: base}, false)
	checkRight(t, "nothing", api.System{}, true)
	checkRight(t, "an object without a variable", api.System{Cells: []api.Cell{{}}}, false)
	checkRight(t, "a function without a variable", api.System{Cells: []api.Cell{{Fun: true}}}, false)
	checkRight(t, "an Apply without a variable", api.System{Cons: []api.Con{{Kind: api.Apply, A: -1}}}, false)
}

// P12.1: Vars is 0 to MaxVars.
func TestRightVars(t *testing.T) {
	for vars, want := range map[int]bool{math.MinInt: false, -1: false, 0: true, 1: true, 16384: true, 16385: false, math.MaxInt: false} {
		if Right(api.System{Vars: vars}) != want {
			t.Errorf("%d variables: Right is %v", vars, !want)
		}
	}
	last := api.MaxVars - 1
	checkRight(t, "the last variable", api.System{Vars: api.MaxVars, Cells: []api.Cell{{Var: last}}, Cons: []api.Con{{Kind: api.Copy, A: last, B: last}}}, true)
	checkRight(t, "behind the last variable", api.System{Vars: api.MaxVars, Cells: []api.Cell{{Var: last + 1}}}, false)
}

// P12.1: objects are MaxVars at most, constraints MaxCons, whatever the variables are.
func TestRightMany(t *testing.T) {
	for _, vars := range []int{1, api.MaxVars} {
		checkRight(t, "16384 objects", api.System{Vars: vars, Cells: make([]api.Cell, 16384)}, true)
		checkRight(t, "16385 objects", api.System{Vars: vars, Cells: make([]api.Cell, 16385)}, false)
		cons := slices.Repeat([]api.Con{{Kind: api.Copy}}, 131073)
		checkRight(t, "131072 constraints", api.System{Vars: vars, Cons: cons[:131072]}, true)
		checkRight(t, "131073 constraints", api.System{Vars: vars, Cons: cons}, false)
	}
	s := api.System{Vars: 1, Cells: make([]api.Cell, 16384), Cons: []api.Con{{Kind: api.Base, B: 16383}}}
	checkRight(t, "the last object", s, true)
	s.Cons[0].B++
	checkRight(t, "behind the last object", s, false)
}

// P12.1: an object that isn't a function has a variable that is there, and no Args; a function has MaxArgs at most, all there.
func TestRightCells(t *testing.T) {
	for _, v := range []int{0, 2} {
		checkCell(t, api.Cell{Var: v}, true)
		checkCell(t, api.Cell{Var: v, Args: []int{}}, true)
		checkCell(t, api.Cell{Var: v, Args: []int{v}}, false)
		checkCell(t, api.Cell{Fun: true, Var: v}, true)
		checkCell(t, api.Cell{Fun: true, Var: v, Args: []int{v}}, true)
		checkCell(t, api.Cell{Fun: true, Var: v, Args: []int{0, 2, 1, 1, v, 0}}, true)
		checkCell(t, api.Cell{Fun: true, Var: v, Args: []int{0, 2, 1, 1, v, 0, 0}}, false)
	}
	for _, v := range []int{math.MinInt, -2, -1, 3, 4, math.MaxInt} {
		checkCell(t, api.Cell{Var: v}, false)
		checkCell(t, api.Cell{Fun: true, Var: v}, false)
		checkCell(t, api.Cell{Fun: true, Args: []int{v}}, false)
		checkCell(t, api.Cell{Fun: true, Args: []int{0, 1, v}}, false)
		checkCell(t, api.Cell{Fun: true, Args: []int{v, 0}}, false)
	}
}

// P12.1: Base names a variable and an object; Copy, From, Into two variables; none of them has Args.
func TestRightCons(t *testing.T) {
	wrong := []int{math.MinInt, -2, -1, 3, 4, math.MaxInt}
	for _, kind := range []byte{api.Base, api.Copy, api.From, api.Into} {
		checkCon(t, api.Con{Kind: kind, A: 2, B: 1}, true)
		checkCon(t, api.Con{Kind: kind, A: 0, B: 0}, true)
		checkCon(t, api.Con{Kind: kind, A: 2, B: 2}, kind != api.Base) // there are two objects, three variables
		checkCon(t, api.Con{Kind: kind, Args: []int{}}, true)
		checkCon(t, api.Con{Kind: kind, Args: []int{0}}, false)
		checkCon(t, api.Con{Kind: kind, Args: []int{-1}}, false)
		for _, v := range wrong {
			checkCon(t, api.Con{Kind: kind, A: v}, false)
			checkCon(t, api.Con{Kind: kind, B: v}, false)
		}
	}
}

// P12.1: A and Args of an Apply are there from -1 on, B is a variable; MaxArgs at most.
func TestRightApply(t *testing.T) {
	for _, v := range []int{-1, 0, 2} {
		checkCon(t, api.Con{Kind: api.Apply, A: v}, true)
		checkCon(t, api.Con{Kind: api.Apply, Args: []int{v}}, true)
		checkCon(t, api.Con{Kind: api.Apply, B: v}, v >= 0)
		checkCon(t, api.Con{Kind: api.Apply, Args: []int{0, 2, v, -1, -1, v}}, true)
		checkCon(t, api.Con{Kind: api.Apply, Args: []int{0, 2, v, -1, -1, v, 0}}, false)
	}
	for _, v := range []int{math.MinInt, -2, 3, math.MaxInt} {
		checkCon(t, api.Con{Kind: api.Apply, A: v}, false)
		checkCon(t, api.Con{Kind: api.Apply, B: v}, false)
		checkCon(t, api.Con{Kind: api.Apply, Args: []int{v}}, false)
		checkCon(t, api.Con{Kind: api.Apply, Args: []int{-1, 0, v}}, false)
		checkCon(t, api.Con{Kind: api.Apply, Args: []int{v, 0}}, false)
	}
}

// P12.1: kinds are these: Base, Copy, From, Into, Apply, and no other.
func TestRightKinds(t *testing.T) {
	for kind := range 256 {
		checkCon(t, api.Con{Kind: byte(kind)}, kind >= 1 && kind <= 5)
	}
}

// P12.1: what is wrong is found wherever it stands; objects may share a variable, and constraints be there twice.
func TestRightLooksAtAll(t *testing.T) {
	for at := range 3 {
		s := sample()
		s.Cells[at].Var = s.Vars
		checkRight(t, "a wrong object", s, false)
	}
	for at := range 6 {
		s := sample()
		s.Cons[at].Kind = 0
		checkRight(t, "a wrong constraint", s, false)
	}
	s := sample()
	s.Cells = append(s.Cells, s.Cells...)
	s.Cons = append(s.Cons, s.Cons...)
	checkRight(t, "all of it twice", s, true)
}

// P12.1, P12.2: held against the words, over many systems that are Right, or nearly so.
func TestByWords(t *testing.T) {
	d, right := dice(12), 0
	for range 20000 {
		s := d.system()
		want := rightByWords(s)
		if want && len(s.Cells) > 0 && len(s.Cons) > 0 {
			right++
		}
		if Right(s) != want {
			t.Fatalf("%+v: Right is %v", s, !want)
		}
		if l := Loose(s); !slices.Equal(l, looseByWords(s)) {
			t.Fatalf("%+v: Loose is %v", s, l)
		}
	}
	if right < 1000 || right > 15000 {
		t.Errorf("%d of the systems are right", right)
	}
}

// places: every number, truth and list of a value, each once.
func places(v reflect.Value) []reflect.Value {
	l := []reflect.Value{}
	switch v.Kind() {
	case reflect.Struct:
		for i := range v.NumField() {
			l = append(l, places(v.Field(i))...)
		}
	case reflect.Slice:
		l = append(l, v)
		for i := range v.Len() {
			l = append(l, places(v.Index(i))...)
		}
	default:
		l = append(l, v)
	}
	return l
}

// change makes a number, a truth or a list another one.
func change(v reflect.Value) {
	switch v.Kind() {
	case reflect.Int:
		v.SetInt(v.Int() + 1)
	case reflect.Uint8:
		v.SetUint(v.Uint() ^ 1)
	case reflect.Bool:
		v.SetBool(!v.Bool())
	case reflect.Slice:
		v.Set(reflect.Append(v, reflect.Zero(v.Type().Elem())))
	}
}

// cutShort takes the last element off a list; false: it is no list, or has none.
func cutShort(v reflect.Value) bool {
	if v.Kind() != reflect.Slice || v.Len() == 0 {
		return false
	}
	v.Set(v.Slice(0, v.Len()-1))
	return true
}

func checkEqual(t *testing.T, what string, a, b api.System, want bool) {
	t.Helper()
	if Equal(a, b) != want || Equal(b, a) != want {
		t.Errorf("%s: Equal is %v, %v, want %v", what, Equal(a, b), Equal(b, a), want)
	}
}

func checkSameCon(t *testing.T, what string, a, b api.Con, want bool) {
	t.Helper()
	if SameCon(a, b) != want || SameCon(b, a) != want {
		t.Errorf("%s: SameCon of %+v and %+v is %v, %v, want %v", what, a, b, SameCon(a, b), SameCon(b, a), want)
	}
}

// P12.2: systems that were made alike are one; one that is another in any one place isn't, whichever stands first.
func TestEqualInEachPlace(t *testing.T) {
	checkEqual(t, "made alike", sample(), sample(), true)
	samplePlaces := func() (*api.System, []reflect.Value) {
		s := sample()
		return &s, places(reflect.ValueOf(&s).Elem())
	}
	_, all := samplePlaces()
	if len(all) < 40 {
		t.Fatalf("only %d places", len(all))
	}
	for i, v := range all {
		s, l := samplePlaces()
		change(l[i])
		checkEqual(t, v.Type().String()+" changed", *s, sample(), false)
		s, l = samplePlaces()
		if cutShort(l[i]) {
			checkEqual(t, v.Type().String()+" cut", *s, sample(), false)
		}
	}
}

// P12.2: element by element: another order is another system; a system need not be Right.
func TestEqualIsByElements(t *testing.T) {
	s := sample()
	slices.Reverse(s.Cons)
	checkEqual(t, "constraints turned", s, sample(), false)
	s = sample()
	slices.Reverse(s.Cells)
	checkEqual(t, "objects turned", s, sample(), false)
	s = sample()
	slices.Reverse(s.Cells[1].Args)
	checkEqual(t, "parameters turned", s, sample(), false)
	s = sample()
	s.Cons = append(s.Cons, s.Cons[0])
	checkEqual(t, "one constraint twice", s, sample(), false)
	wrong := api.System{Vars: -5, Cells: []api.Cell{{Var: 9, Args: []int{-3}}}, Cons: []api.Con{{Kind: 99, A: -4, Args: []int{7}}}}
	checkEqual(t, "a wrong one", wrong, cloned(wrong), true)
}

// P12.2: a constraint is one with itself, and with none that is another in any one place.
func TestSameConInEachPlace(t *testing.T) {
	made := func() api.Con { return api.Con{Kind: api.Apply, A: -1, B: 2, Args: []int{3, -1, 3}} }
	checkSameCon(t, "made alike", made(), made(), true)
	c := made()
	all := len(places(reflect.ValueOf(&c).Elem()))
	if all != 7 {
		t.Fatalf("%d places", all)
	}
	for i := range all {
		c = made()
		change(places(reflect.ValueOf(&c).Elem())[i])
		checkSameCon(t, "changed", c, made(), false)
		c = made()
		if cutShort(places(reflect.ValueOf(&c).Elem())[i]) {
			checkSameCon(t, "cut", c, made(), false)
		}
	}
	checkSameCon(t, "A and B turned", api.Con{Kind: api.Copy, A: 1, B: 2}, api.Con{Kind: api.Copy, A: 2, B: 1}, false)
	checkSameCon(t, "below 0", api.Con{Kind: api.Apply, A: -1}, api.Con{Kind: api.Apply, A: -2}, false)
}

// P12.2, Words: nil and empty lists are the same.
func TestNilAndEmptyAreTheSame(t *testing.T) {
	empty := api.System{Cells: []api.Cell{}, Cons: []api.Con{}}
	checkEqual(t, "of nothing", api.System{}, empty, true)
	checkSameCon(t, "Args", api.Con{Kind: api.Apply}, api.Con{Kind: api.Apply, Args: []int{}}, true)
	s := sample()
	for i := range s.Cells {
		s.Cells[i].Args = append([]int{}, s.Cells[i].Args...)
	}
	for i := range s.Cons {
		s.Cons[i].Args = append([]int{}, s.Cons[i].Args...)
	}
	checkEqual(t, "empty Args", s, sample(), true)
	checkRight(t, "empty Args", s, true)
	if Right(empty) != Right(api.System{}) || len(Loose(empty)) != 0 || Count(empty, api.Base) != 0 {
		t.Error("a system of nothing, with empty lists")
	}
}

func checkLoose(t *testing.T, what string, s api.System, want ...bool) {
	t.Helper()
	if l := Loose(s); !slices.Equal(l, want) {
		t.Errorf("%s: Loose is %v, want %v", what, l, want)
	}
}

// P12.2: loose is what is a Cell's, or A of an Apply; nothing else that a constraint names is.
func TestLoose(t *testing.T) {
	checkLoose(t, "sample", sample(), true, true, true, true, true, true)
	checkLoose(t, "variables alone", api.System{Vars: 3}, false, false, false)
	checkLoose(t, "no variables", api.System{})
	checkLoose(t, "an object's", api.System{Vars: 3, Cells: []api.Cell{{Var: 1}}}, false, true, false)
	checkLoose(t, "a function's", api.System{Vars: 5, Cells: []api.Cell{{Fun: true, Var: 3, Args: []int{4, 0}}}}, true, false, false, true, true)
	for _, kind := range []byte{0, api.Base, api.Copy, api.From, api.Into, 6, 255} {
		checkLoose(t, "no Apply", api.System{Vars: 3, Cells: []api.Cell{{Var: 2}}, Cons: []api.Con{{Kind: kind, A: 1, Args: []int{1}}}}, false, false, true)
	}
	checkLoose(t, "an Apply's", api.System{Vars: 4, Cons: []api.Con{{Kind: api.Apply, A: 1, B: 2, Args: []int{3, 0}}}}, false, true, false, false)
	checkLoose(t, "an Apply to nowhere", api.System{Vars: 2, Cons: []api.Con{{Kind: api.Apply, A: -1}}}, false, false)
	checkLoose(t, "a second one", api.System{Vars: 3, Cons: []api.Con{{Kind: api.Copy}, {Kind: api.Apply, A: 2}}}, false, false, true)
}

// P12.2: variables that aren't there aren't looked at; the system need not be Right.
func TestLooseOfWhatIsNotThere(t *testing.T) {
	for _, v := range []int{math.MinInt, -1 << 31, -2, -1, 2, 3, 1 << 31, math.MaxInt} {
		checkLoose(t, "Var", api.System{Vars: 2, Cells: []api.Cell{{Var: v}, {Var: 1}}}, false, true)
		checkLoose(t, "Args", api.System{Vars: 2, Cells: []api.Cell{{Fun: true, Args: []int{v, 1}}}}, true, true)
		checkLoose(t, "A", api.System{Vars: 2, Cons: []api.Con{{Kind: api.Apply, A: v}, {Kind: api.Apply, A: 1}}}, false, true)
	}
	checkLoose(t, "Args of no function", api.System{Vars: 3, Cells: []api.Cell{{Args: []int{2}}}}, true, false, true)
	for _, vars := range []int{-1, -2, math.MinInt} {
		checkLoose(t, "variables below 0", api.System{Vars: vars, Cells: []api.Cell{{Var: -1}}, Cons: []api.Con{{Kind: api.Apply, A: -1}}})
	}
}

// P12.2: how many constraints are of a kind, be there such a kind or not.
func TestCount(t *testing.T) {
	s := sample()
	for kind, want := range []int{0, 1, 1, 1, 1, 2, 0} {
		if n := Count(s, byte(kind)); n != want {
			t.Errorf("of kind %d there are %d", kind, n)
		}
	}
	s.Cons = append(s.Cons, api.Con{Kind: 255, A: -9}, api.Con{}, api.Con{Kind: 255}, s.Cons[0])
	if Count(s, 255) != 2 || Count(s, 0) != 1 || Count(s, api.Base) != 2 || Count(s, 254) != 0 {
		t.Error("kinds that there aren't")
	}
	all := 0
	for kind := range 256 {
		all += Count(s, byte(kind))
	}
	if all != len(s.Cons) {
		t.Errorf("%d of %d constraints are of a kind", all, len(s.Cons))
	}
	if Count(api.System{Vars: 3, Cells: make([]api.Cell, 2)}, api.Base) != 0 {
		t.Error("objects are no constraints")
	}
}

// P1, P2: whatever the numbers are, no call panics, all tell by the words and the same again, and nothing handed in is changed.
func TestAnyArguments(t *testing.T) {
	d := dice(1)
	for range 300 {
		s, other := d.wild(), d.wild()
		kept := cloned(s)
		if Right(s) != rightByWords(s) || Right(s) != Right(cloned(s)) {
			t.Fatalf("%+v: Right is %v", s, Right(s))
		}
		l := Loose(s)
		if s.Vars < 1000 && !slices.Equal(l, looseByWords(s)) || !slices.Equal(l, Loose(s)) || len(l) != max(s.Vars, 0) {
			t.Fatalf("%+v: Loose is %v", s, l)
		}
		if !Equal(s, kept) || Equal(s, other) != reflect.DeepEqual(s, other) {
			t.Fatalf("%+v: Equal to itself is %v, to %+v %v", s, Equal(s, kept), other, Equal(s, other))
		}
		for i, c := range s.Cons {
			if !SameCon(c, kept.Cons[i]) || Count(s, c.Kind) < 1 {
				t.Fatalf("%+v: not the same", c)
			}
		}
		if !reflect.DeepEqual(s, kept) {
			t.Fatalf("%+v was changed: it was %+v", s, kept)
		}
	}
}

// P1: more variables than a list can have elements: nothing is promised of what Loose answers, but that it does.
func TestLooseOfTooMany(t *testing.T) {
	for _, vars := range []int{1 << 31, 1 << 40, math.MaxInt} {
		Loose(api.System{Vars: vars, Cells: []api.Cell{{Var: vars - 1}}})
	}
}

// Memory: what Loose answers is new each time, and may be written over and appended to.
func TestLooseIsNewMemory(t *testing.T) {
	s := sample()
	l := Loose(s)
	for i := range l {
		l[i] = false
	}
	l = append(l, true)
	if again := Loose(s); !slices.Equal(again, looseByWords(s)) || len(l) != 7 {
		t.Errorf("again: %v", again)
	}
	if !Equal(s, sample()) {
		t.Error("the system was changed")
	}
}
