package whole_test

import (
	"bytes"
	"math/big"
	"strings"
	"testing"

	"quittance/api"
	"quittance/whole"
)

// P3.6
func TestText(t *testing.T) {
	for _, x := range samples() {
		if got := whole.Text(fromBig(x)); got != x.String() {
			t.Errorf("Text(%s) = %s", x, got)
		}
	}
	for k := range 2000 {
		x := big.NewInt(int64(k - 1000))
		if got := whole.Text(whole.Of(k - 1000)); got != x.String() {
			t.Errorf("Text(%s) = %s", x, got)
		}
	}
	if whole.Text(whole.Num{}) != "0" || whole.Text(whole.Num{Below: true}) != "0" || whole.Text(whole.Num{Below: true, Size: []byte{0, 0}}) != "0" || whole.Text(whole.Num{Size: []byte{0, 9}}) != "9" {
		t.Error("Text of 0 and 9")
	}
	if whole.Text(whole.Of(-256)) != "-256" {
		t.Error("the chapter's example")
	}
}

// P3.6: every power of ten and its neighbours, up to the limit; zeros inside a number must not be lost.
func TestTextOfPowersOfTen(t *testing.T) {
	x := big.NewInt(1)
	for n := range 400 {
		for k := int64(-1); k <= 1; k++ {
			y := new(big.Int).Add(x, big.NewInt(k))
			for _, z := range []*big.Int{y, new(big.Int).Neg(y)} {
				s := z.String()
				if got := whole.Text(fromBig(z)); got != s {
					t.Errorf("Text(%s) = %s", s, got)
				}
				got, e := whole.FromText(s)
				if e != api.OK {
					t.Errorf("FromText(%s): %d", s, e)
				}
				is(t, "FromText", got, z)
			}
		}
		if len(x.String()) != n+1 {
			t.Fatal(n)
		}
		x.Mul(x, big.NewInt(10))
	}
}

// P3.6: Text has no limit.
func TestTextOfLong(t *testing.T) {
	for _, n := range []int{65, 167, 1000, 5001} {
		for _, fill := range []byte{1, 0x5a, 0xff} {
			x := new(big.Int).SetBytes(bytes.Repeat([]byte{fill}, n))
			if got := whole.Text(fromBig(x)); got != x.String() {
				t.Errorf("Text of %d times %x", n, fill)
			}
			if got := whole.Text(whole.Neg(fromBig(x))); got != "-"+x.String() {
				t.Errorf("Text of minus %d times %x", n, fill)
			}
		}
	}
}

// P3.6
func TestFromText(t *testing.T) {
	for _, x := range samples() {
		n, e := whole.FromText(x.String())
		if e != api.OK {
			t.Errorf("FromText(%s): %d", x, e)
		}
		is(t, "FromText", n, x)
	}
	n, e := whole.FromText("0")
	if e != api.OK {
		t.Error(e)
	}
	is(t, "FromText", n, new(big.Int))
}

// P3.6: every text of at most four of these bytes is accepted only if it is what Text writes.
func TestFromTextOfAllShort(t *testing.T) {
	all := []string{""}
	for i := 0; i < len(all) && len(all[i]) < 4; i++ {
		for _, x := range []string{"0", "1", "9", "-", "+", "/", ":", " "} {
			all = append(all, all[i]+x)
		}
	}
	for _, s := range all {
		x, ok := new(big.Int).SetString(s, 10)
		n, e := whole.FromText(s)
		if ok && x.String() == s {
			if e != api.OK {
				t.Errorf("FromText(%q): %d", s, e)
			}
			is(t, "FromText", n, x)
			continue
		}
		none(t, "FromText", n)
		if e != api.ErrForm {
			t.Errorf("FromText(%q): %d", s, e)
		}
	}
}

// P3.6: nothing else is a number.
func TestFromTextRefuses(t *testing.T) {
	for _, s := range []string{
		"", "-", "-0", "00", "-00", "01", "-01", "000", "+1", "+0", "--1", "1-", "-1-", "1x", "x1", "a", "A", "ff", "0x10", "0b1", "1_000", "1,000", "1.0", "1e3",
		" 1", "1 ", "1\n", "\x00", "1\x00", "１", "٣", "−1", "\xff", "Inf", "NaN", strings.Repeat("0", 400), strings.Repeat("1", 399) + "x", "-" + strings.Repeat("-", 400),
	} {
		n, e := whole.FromText(s)
		none(t, "FromText", n)
		if e != api.ErrForm {
			t.Errorf("FromText(%q): %d", s, e)
		}
	}
}

// P3.6: 400 and 401 digits, the sign not counted; ErrForm comes ahead of ErrLong.
func TestFromTextLimit(t *testing.T) {
	for _, digit := range []string{"1", "5", "9"} {
		for _, sign := range []string{"", "-"} {
			s := sign + strings.Repeat(digit, 400)
			n, e := whole.FromText(s)
			if e != api.OK {
				t.Error(e)
			}
			is(t, "FromText", n, ofText(t, s))
			if whole.Text(n) != s {
				t.Error("Text of", s)
			}
			for _, long := range []string{s + digit, s + "0", s + strings.Repeat("7", 100000)} {
				n, e := whole.FromText(long)
				none(t, "FromText", n)
				if e != api.ErrLong {
					t.Error(len(long), e)
				}
			}
			for _, long := range []string{s + "x", s + "0x", s + " ", "x" + s, sign + "0" + strings.Repeat(digit, 400), sign + strings.Repeat("0", 401), s + "-1", s + strings.Repeat("7", 1000) + "."} {
				n, e := whole.FromText(long)
				none(t, "FromText", n)
				if e != api.ErrForm {
					t.Error(long, e)
				}
			}
		}
	}
}
