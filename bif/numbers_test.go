package bif_test

import (
	"math"
	"math/big"
	"math/rand"
	"testing"

	"troupe/api"
	"troupe/bif"
)

const (
	least = "-9223372036854775808"
	most  = "9223372036854775807"
)

func TestNumbers(t *testing.T) {
	cases := []struct{ want, name, a, b string }{
		{"3", "add", "1", "2"}, {"0", "add", most, "-" + most}, {most, "add", least, "-1"}, {"-2", "add", most, most}, {"0", "add", least, least},
		{"-1", "sub", "1", "2"}, {most, "sub", least, "1"}, {least, "sub", most, "-1"}, {least, "sub", "0", least}, {"0", "sub", least, least}, {"-1", "sub", most, least},
		{"6", "mul", "2", "3"}, {"-6", "mul", "-2", "3"}, {least, "mul", least, "-1"}, {"1", "mul", most, most}, {"0", "mul", least, "2"}, {least, "mul", "4611686018427387904", "2"}, {"0", "mul", "4294967296", "4294967296"},
		{"3", "div", "7", "2"}, {"-3", "div", "-7", "2"}, {"-3", "div", "7", "-2"}, {"3", "div", "-7", "-2"}, {"0", "div", "1", "2"}, {"0", "div", "-1", "2"}, {least, "div", least, "-1"}, {least, "div", least, "1"}, {"1", "div", least, least}, {"-1", "div", least, most}, {"0", "div", most, least},
		{"1", "rem", "7", "2"}, {"-1", "rem", "-7", "2"}, {"1", "rem", "7", "-2"}, {"-1", "rem", "-7", "-2"}, {"0", "rem", "6", "-3"}, {"0", "rem", least, "-1"}, {"-1", "rem", least, most}, {most, "rem", most, least}, {"0", "rem", "0", "5"},
		{"8", "band", "12", "10"}, {"0", "band", least, most}, {least, "band", least, "-1"}, {"5", "band", "-1", "5"},
		{"14", "bor", "12", "10"}, {"-1", "bor", least, most}, {"-1", "bor", "-1", "5"},
		{"6", "bxor", "12", "10"}, {"-1", "bxor", least, most}, {"-6", "bxor", "-1", "5"}, {"0", "bxor", least, least},
		{"5", "bsl", "5", "0"}, {"10", "bsl", "5", "1"}, {least, "bsl", "1", "63"}, {least, "bsl", "-1", "63"}, {"0", "bsl", "2", "63"}, {least, "bsl", "3", "63"}, {"-2", "bsl", most, "1"}, {"0", "bsl", least, "1"}, {"-6", "bsl", "-3", "1"}, {least, "bsl", "1", "63"}, {"4611686018427387904", "bsl", "1", "62"},
		{"-5", "bsr", "-5", "0"}, {"2", "bsr", "5", "1"}, {"-3", "bsr", "-5", "1"}, {"-1", "bsr", "-1", "63"}, {"-1", "bsr", least, "63"}, {"0", "bsr", most, "63"}, {"1", "bsr", most, "62"}, {"-2", "bsr", least, "62"}, {"-4611686018427387904", "bsr", least, "1"},
	}
	for _, c := range cases {
		says(t, c.want, c.name, c.a, c.b)
	}
}

func TestNeg(t *testing.T) {
	for arg, want := range map[string]string{"0": "0", "1": "-1", "-1": "1", most: "-" + most, "-" + most: most, least: least} {
		says(t, want, "neg", arg)
	}
}

func TestByNought(t *testing.T) {
	for _, a := range []string{"0", "1", "-1", most, least} {
		raises(t, badarith, "div", a, "0")
		raises(t, badarith, "rem", a, "0")
	}
}

func TestShiftsBeyond(t *testing.T) {
	for _, a := range []string{"0", "1", "-1", most, least} {
		for _, by := range []string{"-1", "-2", "-63", "-64", least, "64", "65", "128", "256", "4294967296", most} {
			raises(t, badarith, "bsl", a, by)
			raises(t, badarith, "bsr", a, by)
		}
	}
}

// reckoned is what a function of two numbers comes to as whole numbers without an end, modulo 2^64 with sign; false if it goes wrong.
func reckoned(name string, a, b int64) (int64, bool) {
	x, y, z := big.NewInt(a), big.NewInt(b), new(big.Int)
	shifts := b >= 0 && b <= 63
	switch name {
	case "add":
		z.Add(x, y)
	case "sub":
		z.Sub(x, y)
	case "mul":
		z.Mul(x, y)
	case "div":
		if b == 0 {
			return 0, false
		}
		z.Quo(x, y)
	case "rem":
		if b == 0 {
			return 0, false
		}
		z.Rem(x, y)
	case "band":
		z.And(x, y)
	case "bor":
		z.Or(x, y)
	case "bxor":
		z.Xor(x, y)
	case "bsl":
		if !shifts {
			return 0, false
		}
		z.Lsh(x, uint(b))
	case "bsr":
		if !shifts {
			return 0, false
		}
		z.Rsh(x, uint(b)) // a whole number's shift keeps the sign, and goes down
	}
	z.And(z, new(big.Int).SetUint64(math.MaxUint64))
	return int64(z.Uint64()), true
}

// edges are numbers at which something turns, and others.
func edges() []int64 {
	ns := []int64{0, 1, -1, 2, -2, 3, 7, -7, 10, 61, 62, 63, 64, 65, -62, -63, -64, 255, 256, math.MaxInt64, math.MinInt64, math.MaxInt64 - 1, math.MinInt64 + 1}
	for _, bit := range []int{16, 31, 32, 33, 60, 61, 62} {
		n := int64(1) << bit
		ns = append(ns, n, -n, n-1, n+1, -n-1, 1-n)
	}
	r := rand.New(rand.NewSource(8))
	for range 60 {
		ns = append(ns, int64(r.Uint64()), int64(r.Uint64())>>r.Intn(64), int64(r.Intn(70)))
	}
	return ns
}

func TestNumbersAsWholeNumbersAreReckoned(t *testing.T) {
	for _, name := range []string{"add", "sub", "mul", "div", "rem", "band", "bor", "bxor", "bsl", "bsr"} {
		n := number(t, name)
		for _, a := range edges() {
			for _, b := range edges() {
				want, ok := reckoned(name, a, b)
				x, reason, err := bif.Do(n, num(a), num(b))
				if err != nil || ok && (reason != "" || !same(x, num(want))) || !ok && (reason != badarith || !same(x, api.Term{})) {
					t.Fatalf("%s %d %d: %d %q %v, not %d", name, a, b, x.N, reason, err, want)
				}
			}
		}
	}
	for _, a := range edges() {
		want, _ := reckoned("sub", 0, a)
		if x := answers(t, "neg", num(a)); !same(x, num(want)) {
			t.Errorf("neg %d: %d", a, x.N)
		}
	}
}
