package gauge

import (
	"math"
	"math/big"
	"testing"
)

var (
	nan     = math.NaN()
	endless = math.Inf(1)
	minus0  = math.Copysign(0, -1)
)

// alike: the same float, the sign of a nought too; of those that are no number all.
func alike(x, y float64) bool {
	return math.IsNaN(x) && math.IsNaN(y) || x == y && math.Signbit(x) == math.Signbit(y)
}

// P4.1: shares, by 0 too.
func TestShare(t *testing.T) {
	for _, c := range []struct {
		part, whole int
		want        float64
	}{
		{1, 2, 0.5},
		{1, 3, 1.0 / 3},
		{-3, 4, -0.75},
		{3, -4, -0.75},
		{7, 7, 1},
		{9, 3, 3},
		{0, 5, 0},
		{0, -5, minus0},
		{0, 0, nan},
		{1, 0, endless},
		{-1, 0, -endless},
		{math.MaxInt, 0, endless},
		{math.MinInt, 0, -endless},
		{math.MinInt, -1, 1 << 63},
		{math.MaxInt, 1, 1 << 63},
		{1<<53 + 1, 1, 1 << 53},
		{math.MinInt, math.MinInt, 1},
	} {
		if got := Share(c.part, c.whole); !alike(got, c.want) {
			t.Errorf("Share(%d, %d) = %v, want %v", c.part, c.whole, got, c.want)
		}
	}
}

// P4.1: means: the sum goes from 0 on, in order.
func TestMean(t *testing.T) {
	for _, c := range []struct {
		l    []float64
		want float64
	}{
		{nil, nan},
		{[]float64{}, nan},
		{[]float64{5}, 5},
		{[]float64{1, 2, 6}, 3},
		{[]float64{1, 2}, 1.5},
		{[]float64{-1, 1}, 0},
		{[]float64{minus0}, 0},
		{[]float64{minus0, minus0}, 0},
		{[]float64{1, 1e16, -1e16}, 0},
		{[]float64{1e16, -1e16, 1}, 1.0 / 3},
		{[]float64{math.MaxFloat64, math.MaxFloat64, -math.MaxFloat64}, endless},
		{[]float64{endless, 1}, endless},
		{[]float64{endless, -endless}, nan},
		{[]float64{1, nan, 2}, nan},
	} {
		if got := Mean(c.l...); !alike(got, c.want) {
			t.Errorf("Mean(%v) = %v, want %v", c.l, got, c.want)
		}
	}
	if got := Mean(); !math.IsNaN(got) {
		t.Errorf("Mean() = %v", got)
	}
}

// P4.1: of floats that stand in Less' order each is less than all behind it, and none than itself or one ahead.
func TestLess(t *testing.T) {
	rising := []float64{
		nan, -endless, -math.MaxFloat64, -1e15, -2, -1, -math.SmallestNonzeroFloat64, minus0,
		0, math.SmallestNonzeroFloat64, 0.5, 1, 2, 1e15, math.MaxFloat64, endless,
	}
	for i, x := range rising {
		for j, y := range rising {
			if got := Less(x, y); got != (i < j) {
				t.Errorf("Less(%v, %v) = %v", x, y, got)
			}
		}
	}
	other := math.Copysign(math.Float64frombits(0x7ff8000000000123), -1)
	if Less(nan, other) || Less(other, nan) || !Less(other, -endless) || Less(-endless, other) {
		t.Error("what is no number isn't all alike")
	}
}

// P4.1: the first place of which none is greater.
func TestBest(t *testing.T) {
	for _, c := range []struct {
		l    []float64
		want int
	}{
		{nil, -1},
		{[]float64{}, -1},
		{[]float64{7}, 0},
		{[]float64{nan}, 0},
		{[]float64{nan, nan}, 0},
		{[]float64{nan, -endless}, 1},
		{[]float64{-endless, nan}, 0},
		{[]float64{nan, 2, 3, 3}, 2},
		{[]float64{3, 2, 3}, 0},
		{[]float64{1, 2, 3}, 2},
		{[]float64{3, 2, 1}, 0},
		{[]float64{minus0, 0}, 1},
		{[]float64{0, minus0}, 0},
		{[]float64{minus0, minus0}, 0},
		{[]float64{-1, minus0, 0, 0}, 2},
		{[]float64{1, nan, 2, nan}, 2},
		{[]float64{1, endless, endless}, 1},
	} {
		if got := Best(c.l); got != c.want {
			t.Errorf("Best(%v) = %d, want %d", c.l, got, c.want)
		}
	}
}

// P4.2: known texts, at the edges that the chapter names.
func TestTextKnown(t *testing.T) {
	for _, c := range []struct {
		x    float64
		want string
	}{
		{nan, "none"},
		{math.Copysign(nan, -1), "none"},
		{endless, "endless"},
		{-endless, "-endless"},
		{1e15, "great"},
		{-1e15, "great"},
		{math.MaxFloat64, "great"},
		{-math.MaxFloat64, "great"},
		{math.Nextafter(1e15, 0), "999999999999999.84"},
		{math.Nextafter(-1e15, 0), "-999999999999999.84"},
		{0, "0.00"},
		{minus0, "-0.00"},
		{math.SmallestNonzeroFloat64, "0.00"},
		{-math.SmallestNonzeroFloat64, "-0.00"},
		{-0.001, "-0.00"},
		{0.009, "0.00"},
		{0.01, "0.01"},
		{0.05, "0.05"},
		{0.1, "0.10"},
		{0.999, "0.99"},
		{math.Nextafter(1, 0), "0.99"},
		{1, "1.00"},
		{-2.5, "-2.50"},
		{1.005, "1.00"},
		{2.0 / 3, "0.66"},
		{-2.0 / 3, "-0.66"},
		// Times 100, as floats, some are a little less than they seem, and some aren't.
		{0.29, "0.28"},
		{0.07, "0.07"},
		{0.57, "0.56"},
		{1.15, "1.14"},
		{100, "100.00"},
		{123456.789, "123456.78"},
		{Share(1, 3), "0.33"},
		{Share(0, 0), "none"},
		{Share(5, 0), "endless"},
		{Share(-3, 0), "-endless"},
		{Mean(), "none"},
	} {
		if got := Text(c.x); got != c.want {
			t.Errorf("Text(%v) = %s, want %s", c.x, got, c.want)
		}
	}
}

// byRule is P4.2's last part as it stands there: x times 100, as a float; what is ahead of its point, as digits; its own point two digits from their end.
func byRule(x float64) string {
	times := x * 100
	whole, _ := new(big.Float).SetFloat64(math.Abs(times)).Int(nil)
	digits := whole.String()
	for len(digits) < 3 {
		digits = "0" + digits
	}
	text := digits[:len(digits)-2] + "." + digits[len(digits)-2:]
	if math.Signbit(x) {
		text = "-" + text
	}
	return text
}

// P4.2: texts by the rule, of hundredths and what is beside them, up to the greatest.
func TestTextIsTheRule(t *testing.T) {
	for _, near := range []float64{0, 1, 99, 12345, 1 << 40, 9e13, 3.7e14, 999999999999000} {
		for i := range 1000 {
			x := near + float64(i)/100
			for _, y := range []float64{x, math.Nextafter(x, 0), math.Nextafter(x, 1e15)} {
				if got, want := Text(y), byRule(y); got != want {
					t.Errorf("Text(%v) = %s, want %s", y, got, want)
				}
				if got, want := Text(-y), byRule(-y); got != want {
					t.Errorf("Text(%v) = %s, want %s", -y, got, want)
				}
			}
		}
	}
}

// Memory, P2: a list that is handed in stays as it is, and the same list has the same answers.
func TestListsStay(t *testing.T) {
	l := []float64{3, 1, 2}
	for range 2 {
		if Mean(l...) != 2 || Best(l) != 0 || l[0] != 3 || l[1] != 1 || l[2] != 2 {
			t.Errorf("%v", l)
		}
	}
}
