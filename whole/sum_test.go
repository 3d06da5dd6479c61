package whole_test

import (
	"math"
	"math/big"
	"testing"

	"quittance/whole"
)

// P3.5: all pairs of small numbers.
func TestCompareAndAddOfAllSmall(t *testing.T) {
	for a := -300; a <= 300; a++ {
		for b := -300; b <= 300; b++ {
			x, y := whole.Of(a), whole.Of(b)
			is(t, "Add", whole.Add(x, y), big.NewInt(int64(a+b)))
			if got := whole.Compare(x, y); got != big.NewInt(int64(a)).Cmp(big.NewInt(int64(b))) {
				t.Errorf("Compare(%d, %d) = %d", a, b, got)
			}
		}
	}
}

// P3.5: pairs of samples of all lengths and signs.
func TestCompareAndAddOfSamples(t *testing.T) {
	all := samples()
	for i, x := range all {
		for j := i % 7; j < len(all); j += 7 {
			y := all[j]
			is(t, "Add", whole.Add(fromBig(x), fromBig(y)), new(big.Int).Add(x, y))
			if got := whole.Compare(fromBig(x), fromBig(y)); got != x.Cmp(y) {
				t.Errorf("Compare(%s, %s) = %d", x, y, got)
			}
		}
		is(t, "Add to 0", whole.Add(fromBig(x), fromBig(new(big.Int).Neg(x))), new(big.Int))
		is(t, "Add twice", whole.Add(fromBig(x), fromBig(x)), new(big.Int).Lsh(x, 1))
		if whole.Compare(fromBig(x), fromBig(x)) != 0 {
			t.Errorf("Compare(%s, %s)", x, x)
		}
	}
}

// P3.5: carries and borrows through all bytes.
func TestAddCarries(t *testing.T) {
	for _, x := range [][3]string{
		{"0xff", "1", "0x100"}, {"1", "0xff", "0x100"}, {"0xffffff", "1", "0x1000000"}, {"0xffffffffffffffffffff", "0xffffffffffffffffffff", "0x1fffffffffffffffffffe"},
		{"0x1000000", "-1", "0xffffff"}, {"-1", "0x1000000", "0xffffff"}, {"-0x1000000", "1", "-0xffffff"}, {"1", "-0x1000000", "-0xffffff"},
		{"-0xffffff", "-1", "-0x1000000"}, {"0x10001", "-0x10000", "1"}, {"0x10000", "-0x10001", "-1"}, {"0x123456789abcdef0", "-0x123456789abcdef0", "0"},
		{"0x80", "0x80", "0x100"}, {"-0x80", "-0x80", "-0x100"}, {"0x7f", "1", "0x80"}, {"0", "0", "0"}, {"0", "-5", "-5"}, {"-5", "0", "-5"},
		{"0xff00ff", "0x00ff01", "0x1000000"}, {"0x010000000000", "-0x00ffffffff", "0xff00000001"},
	} {
		is(t, x[0]+" + "+x[1], whole.Add(fromBig(ofText(t, x[0])), fromBig(ofText(t, x[1]))), ofText(t, x[2]))
	}
}

// P3.5: beyond the ints.
func TestAddOfExtremes(t *testing.T) {
	least, most := whole.Of(math.MinInt), whole.Of(math.MaxInt)
	is(t, "least twice", whole.Add(least, least), ofText(t, "-18446744073709551616"))
	is(t, "most twice", whole.Add(most, most), ofText(t, "18446744073709551614"))
	is(t, "both", whole.Add(least, most), big.NewInt(-1))
	is(t, "opposite of the least", whole.Neg(least), ofText(t, "9223372036854775808"))
	is(t, "one less", whole.Add(least, whole.Of(-1)), ofText(t, "-9223372036854775809"))
}

// P3.5: lengths, signs and first bytes that mislead.
func TestCompareExamples(t *testing.T) {
	for _, x := range []struct {
		a, b string
		want int
	}{
		{"0", "0", 0}, {"0", "1", -1}, {"0", "-1", 1}, {"1", "-1", 1}, {"-1", "1", -1}, {"0xff", "0x100", -1}, {"-0xff", "-0x100", 1}, {"0x100", "-0xffff", 1},
		{"0x0102", "0x0103", -1}, {"-0x0102", "-0x0103", 1}, {"0x0201", "0x0102", 1}, {"-0x0201", "-0x0102", -1}, {"0x7f", "0x80", -1}, {"-5", "-5", 0}, {"-1", "0xffffffffffffffffffff", -1},
	} {
		if got := whole.Compare(fromBig(ofText(t, x.a)), fromBig(ofText(t, x.b))); got != x.want {
			t.Errorf("Compare(%s, %s) = %d", x.a, x.b, got)
		}
	}
	if whole.Compare(whole.Num{}, whole.Num{Below: true}) != 0 || whole.Compare(whole.Num{Below: true, Size: []byte{0}}, whole.Num{Size: []byte{}}) != 0 {
		t.Error("Compare of a negative 0")
	}
}
