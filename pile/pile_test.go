package pile

import (
	"math"
	"slices"
	"testing"
)

// model is P3.1's set as it stands there: numbers, and nothing about blocks.
type model map[int]bool

func modelOf(l []int) model {
	m := model{}
	for _, n := range l {
		if n >= 0 {
			m[n] = true
		}
	}
	return m
}

func (m model) all() []int {
	l := []int{}
	for n := range m {
		l = append(l, n)
	}
	slices.Sort(l)
	return l
}

// samples are lists of numbers at the edges of blocks, near and far, twice, falling, below 0.
func samples() [][]int {
	l := [][]int{
		nil,
		{},
		{-1},
		{math.MinInt, -64, -1},
		{0},
		{63}, {64}, {65}, {127}, {128},
		{1, 65, 129},
		{0, 63, 64, 127, 128},
		{5, 3, 5},
		{5, 3, 5, -1, 200},
		{9, 8, 7, 1000, 6, 500, 5},
		{1 << 31, 1<<31 - 1, 1<<32 + 1},
		{1<<37 - 1, 1 << 36, 0},
		{1<<37 - 64, 1<<37 - 65},
		{math.MaxInt, math.MaxInt - 63, math.MaxInt - 64},
	}
	return append(l, scattered(12)...)
}

// scattered are lists that look like chance, and are the same each time: some dense, some sparse, one falling.
func scattered(count int) [][]int {
	x := uint64(1)
	next := func(below uint64) int {
		x = x*6364136223846793005 + 1442695040888963407
		return int(x >> 33 % below)
	}
	lists := make([][]int, count)
	for i := range lists {
		spread := []uint64{40, 300, 5000}[i%3]
		for range 10 + 15*i {
			lists[i] = append(lists[i], next(spread)-3)
		}
	}
	for i := range 500 {
		lists[0] = append(lists[0], 64*(500-i))
	}
	return lists
}

// check holds a set against the numbers that it must have, by all that tells of it.
func check(t *testing.T, what string, s *Set, want model) {
	t.Helper()
	all := want.all()
	if got := s.All(); !slices.Equal(got, all) {
		t.Errorf("%s: All %v, want %v", what, got, all)
	}
	if s.Len() != len(all) {
		t.Errorf("%s: Len %d, want %d", what, s.Len(), len(all))
	}
	for _, n := range all {
		for _, near := range []int{n - 64, n - 1, n, n + 1, n + 64} {
			if s.Has(near) != want[near] {
				t.Errorf("%s: Has(%d) is %v", what, near, s.Has(near))
			}
		}
	}
	if s.Has(-1) || s.Has(math.MinInt) {
		t.Errorf("%s: it has a number below 0", what)
	}
}

// P3.1: the chapter's example.
func TestOfExample(t *testing.T) {
	if got := Of(5, 3, 5).All(); !slices.Equal(got, []int{3, 5}) {
		t.Errorf("Of(5, 3, 5): %v", got)
	}
}

// P3.1: Of, All, Len and Has; what was handed in stays as it is.
func TestOf(t *testing.T) {
	for _, l := range samples() {
		before := slices.Clone(l)
		s := Of(l...)
		if !slices.Equal(l, before) {
			t.Errorf("Of changed %v to %v", before, l)
		}
		check(t, "Of", s, modelOf(l))
	}
	check(t, "of nothing", Of(), model{})
}

// P3.1: Add tells whether a number wasn't there; below 0 nothing is added.
func TestAdd(t *testing.T) {
	for _, l := range samples() {
		var s Set
		want := model{}
		for _, n := range l {
			if got := s.Add(n); got != (n >= 0 && !want[n]) {
				t.Errorf("Add(%d) is %v", n, got)
			}
			if n >= 0 {
				want[n] = true
			}
			if s.Has(n) != want[n] || s.Add(n) {
				t.Errorf("%d isn't in it just once", n)
			}
		}
		check(t, "Add", &s, want)
	}
}

// P3.1: Join of any two; t stays as it is, and neither is moved by the other one thereafter.
func TestJoin(t *testing.T) {
	for _, a := range samples() {
		for _, b := range samples() {
			s, u := Of(a...), Of(b...)
			want := modelOf(slices.Concat(a, b))
			greater := len(want) > len(modelOf(a))
			if got := s.Join(u); got != greater {
				t.Errorf("%v joins %v: %v", a, b, got)
			}
			check(t, "Join", s, want)
			check(t, "what was joined", u, modelOf(b))
			if s.Join(u) {
				t.Errorf("%v joins %v: greater a second time", a, b)
			}
			u.Add(77777)
			s.Add(88888)
			if s.Has(77777) || u.Has(88888) {
				t.Errorf("%v joins %v: they share numbers", a, b)
			}
		}
	}
}

// P3.1: Less of any two is another set; both stay as they are.
func TestLess(t *testing.T) {
	for _, a := range samples() {
		for _, b := range samples() {
			s, u := Of(a...), Of(b...)
			want := modelOf(a)
			for _, n := range b {
				delete(want, n)
			}
			rest := s.Less(u)
			check(t, "Less", rest, want)
			if !rest.Add(1<<40) || s.Has(1<<40) || u.Has(1<<40) {
				t.Errorf("%v less %v isn't another one", a, b)
			}
			check(t, "what it was taken of", s, modelOf(a))
			check(t, "what was taken off", u, modelOf(b))
		}
	}
}

// P3.1: a set with itself.
func TestWithItself(t *testing.T) {
	for _, l := range samples() {
		s := Of(l...)
		if s.Join(s) || s.Less(s).Len() != 0 || !Same(s, s) {
			t.Errorf("%v with itself", l)
		}
		check(t, "with itself", s, modelOf(l))
	}
}

// P3.1: Same and Key of any two, however they came to be.
func TestSameAndKey(t *testing.T) {
	for _, a := range samples() {
		for _, b := range samples() {
			s, u := Of(a...), &Set{}
			for _, n := range slices.Backward(b) {
				u.Add(n)
			}
			want := slices.Equal(modelOf(a).all(), modelOf(b).all())
			if Same(s, u) != want || Same(u, s) != want {
				t.Errorf("%v, %v: Same is %v", a, b, Same(s, u))
			}
			if (s.Key() == u.Key()) != want {
				t.Errorf("%v, %v: keys %x, %x", a, b, s.Key(), u.Key())
			}
		}
	}
}

// P3.1: keys of all sets of a few numbers at the edges are apart, and those of the sets that come to be another way are the same.
func TestKeysOfAllParts(t *testing.T) {
	numbers := []int{0, 1, 63, 64, 65, 1 << 14, 1 << 20, 1 << 36, 1<<37 - 64, 1<<37 - 1}
	seen := map[string]int{}
	for part := range 1 << len(numbers) {
		whole, out := Of(numbers...), &Set{}
		s := &Set{}
		for i, n := range numbers {
			if part>>i&1 == 1 {
				s.Add(n)
			} else {
				out.Add(n)
			}
		}
		if other, ok := seen[s.Key()]; ok {
			t.Fatalf("parts %b, %b have one key", part, other)
		}
		seen[s.Key()] = part
		if rest := whole.Less(out); rest.Key() != s.Key() || !Same(rest, s) {
			t.Errorf("part %b: what is left has another key, or isn't the Same", part)
		}
		if !whole.Join(s) && s.Join(out) && (s.Key() != whole.Key() || !Same(s, whole)) {
			t.Errorf("part %b: what was joined has another key, or isn't the Same", part)
		}
	}
}

// P3.1: a copy is like it, and another one.
func TestCopy(t *testing.T) {
	for _, l := range samples() {
		s := Of(l...)
		c := s.Copy()
		if c == s || !Same(s, c) || s.Key() != c.Key() {
			t.Errorf("%v: a copy isn't like it", l)
		}
		c.Add(1 << 40)
		s.Add(1 << 41)
		for n := range 70 {
			c.Add(n)
		}
		check(t, "it", s, modelOf(append(slices.Clone(l), 1<<41)))
		if !c.Has(1<<40) || c.Has(1<<41) {
			t.Errorf("%v: a copy isn't another one", l)
		}
	}
}

// P3.1: the zero value is empty, and may be used.
func TestZeroValue(t *testing.T) {
	var s, u Set
	check(t, "zero", &s, model{})
	if !Same(&s, Of()) || !Same(&s, nil) || s.Key() != Of().Key() || s.Copy().Len() != 0 || s.Less(&u).Len() != 0 {
		t.Error("a zero value isn't like an empty set")
	}
	if s.Join(&u) || !s.Join(Of(7)) || !u.Add(7) || !Same(&s, &u) {
		t.Error("a zero value can't be used")
	}
}

// P1, P3.1: a nil set is empty; nothing is put into it.
func TestNilSet(t *testing.T) {
	var s *Set
	if s.Add(1) || s.Add(-1) || s.Join(Of(1)) || s.Join(nil) || s.Has(0) || s.Has(-1) {
		t.Error("something is in a nil set")
	}
	check(t, "nil", s, model{})
	if !Same(s, nil) || !Same(s, Of()) || Same(s, Of(0)) || Same(Of(0), s) || s.Key() != Of().Key() || s.Key() == Of(0).Key() {
		t.Error("a nil set isn't like an empty one")
	}
	u := Of(1, 2)
	if u.Join(nil) {
		t.Error("Join(nil) made a set greater")
	}
	check(t, "less nil", u.Less(nil), modelOf([]int{1, 2}))
	check(t, "nil less", s.Less(u), model{})
	if !s.Copy().Add(3) || !s.Less(nil).Add(3) {
		t.Error("what a nil set answers isn't another set")
	}
}

// Memory: what was handed in may be written over, and so may a list that was answered.
func TestMemory(t *testing.T) {
	l := []int{1, 64, 200}
	s := Of(l...)
	clear(l)
	first := s.All()
	_ = append(first, 9, 9, 9)
	clear(first)
	check(t, "written over", s, modelOf([]int{1, 64, 200}))

	u := Of(300)
	u.Join(s)
	s.Add(2)
	s.Add(65)
	check(t, "joined, and told more", u, modelOf([]int{1, 64, 200, 300}))
}

// P2: the same numbers have the same answers, whatever was asked before, and asking changes nothing.
func TestSameAgain(t *testing.T) {
	s := Of(3, 70, 9000)
	key := s.Key()
	for range 3 {
		s.Len()
		s.Has(5)
		s.Less(Of(3))
		s.Copy().Add(4)
		s.Join(Of(70))
		Same(s, Of(3))
		if s.Key() != key || !slices.Equal(s.All(), []int{3, 70, 9000}) {
			t.Error("another answer of the same set")
		}
	}
}

// P1: many numbers far apart, handed in falling, are no more than many numbers.
func TestOfManyFalling(t *testing.T) {
	l := make([]int, 300000)
	for i := range l {
		l[i] = (len(l) - i) * 1000
	}
	s := Of(l...)
	if s.Len() != len(l) || !s.Has(1000) || s.Has(1001) {
		t.Errorf("%d numbers, want %d", s.Len(), len(l))
	}
}
