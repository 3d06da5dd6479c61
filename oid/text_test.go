package oid_test

import (
	"encoding/asn1"
	"slices"
	"strings"
	"testing"

	"quittance/api"
	"quittance/oid"
)

// P4.1, P4.4: texts there and back; each text is that of one oid.
func TestTextThereAndBack(t *testing.T) {
	seen := map[string][]int{}
	for _, o := range oids() {
		s, e := oid.Text(o)
		if e != api.OK || s != asn1.ObjectIdentifier(o).String() {
			t.Error(o, s, e)
		}
		if other, ok := seen[s]; ok && !slices.Equal(o, other) {
			t.Error(o, other, s)
		}
		seen[s] = o
		if p, e := oid.FromText(s); e != api.OK || !slices.Equal(p, o) {
			t.Error(s, p, e)
		}
	}
}

// P4.1
func TestText(t *testing.T) {
	for want, o := range map[string][]int{
		"1.2.840.113549": {1, 2, 840, 113549}, "2.5.29.20": {2, 5, 29, 20}, "2.999": {2, 999}, "0.0": {0, 0}, "0.39": {0, 39}, "1.0": {1, 0}, "1.39.0": {1, 39, 0},
		"2.2147483567": {2, top - 80}, "2.5.2147483647": {2, 5, top}, "2.100.10.0.7": {2, 100, 10, 0, 7},
		"1.2" + strings.Repeat(".0", 30): append([]int{1, 2}, make([]int, 30)...),
	} {
		if s, e := oid.Text(o); e != api.OK || s != want {
			t.Error(o, s, e)
		}
		if p, e := oid.FromText(want); e != api.OK || !slices.Equal(p, o) {
			t.Error(want, p, e)
		}
	}
	for _, o := range wrongOids() {
		if s, e := oid.Text(o); s != "" || e != api.ErrArg {
			t.Error(o, s, e)
		}
	}
}

// P4.4: texts of numbers that are no oid.
func TestFromTextNoOid(t *testing.T) {
	for _, s := range []string{
		"0", "1", "2", "3", "7", "2147483647", "2147483648", "9999999999",
		"0.40", "1.40", "1.9999999999", "1.40.1", "3.0", "3.1", "3.1.1", "10.1", "2147483648.1", "9999999999.1",
		"2.2147483568", "2.2147483647", "2.2147483648", "2.4294967296", "2.9999999999", "2.2147483568.1",
		"2.5.2147483648", "2.5.2147483649", "2.5.4294967295", "2.5.4294967296", "2.5.9999999999", "2.5.9999999999.1", "1.2.1000000000.2147483648",
		"1.2" + strings.Repeat(".0", 31), "2.5" + strings.Repeat(".2147483647", 31), "1.2" + strings.Repeat(".1", 100000),
	} {
		if o, e := oid.FromText(s); len(o) != 0 || e != api.ErrArg {
			t.Error(s, o, e)
		}
	}
}

// P4.4: what is no text of numbers, alone, at each place of an oid, and of what is none.
func TestFromTextForm(t *testing.T) {
	wrong := []string{
		"", "00", "01", "02", "007", "010", "0000000000", "0000000001", "00000000001", "10000000000", "12345678901", "99999999999", "01234567890", "11111111111111111111", "18446744073709551617",
		"+1", "-1", "-0", "+0", "1-", "--1", " 1", "1 ", " ", "\t", "1\n", "\n1", "a", "A", "1a", "a1", "f", "x", "0x1", "0b1", "0o7", "1_0", "1e1", "1,2", "1/2", "1:2", ":", "/", "\x00", "1\x00", "\xff", "１", "٣", "۱", "½",
	}
	for _, x := range wrong {
		for _, s := range []string{x, x + ".5", "2." + x, "2.5." + x, "2." + x + ".5", "2.5.29." + x + ".1", "1.2" + strings.Repeat(".0", 29) + "." + x, "9." + x, "3.3." + x, x + ".99.1", "1.2" + strings.Repeat(".0", 40) + "." + x, "2.5.9999999999." + x} {
			if o, e := oid.FromText(s); len(o) != 0 || e != api.ErrForm {
				t.Errorf("FromText(%q) = %v, %d", s, o, e)
			}
		}
	}
}

// P4.4: points at either end, and two of them in a row.
func TestFromTextPoints(t *testing.T) {
	for _, s := range []string{
		".", "..", "...", ".1", "1.", ".2.5", "2.5.", "2..5", "2.5..29", "..2.5", "2.5..", ".2.5.", "2.5.29.", "2,5", "2 5", "2.5.29 .20", "2．5", "1.2" + strings.Repeat(".1", 30) + ".", "3.1.", ".3.1",
		strings.Repeat(".", 100000), strings.Repeat("1.", 100000), strings.Repeat("1", 100000),
	} {
		if o, e := oid.FromText(s); len(o) != 0 || e != api.ErrForm {
			t.Errorf("FromText(%.50q) = %v, %d", s, o, e)
		}
	}
}

// P4.4: all short texts of the characters that matter; only what Text writes is accepted.
func TestFromTextAll(t *testing.T) {
	var all func(s string, more int)
	all = func(s string, more int) {
		o, e := oid.FromText(s)
		if want := textError(s); e != want {
			t.Errorf("FromText(%q): %d, want %d", s, e, want)
		}
		if again, f := oid.Text(o); e == api.OK && (f != api.OK || again != s) {
			t.Errorf("FromText(%q) = %v, whose text is %q", s, o, again)
		}
		for _, x := range []string{".", "0", "1", "2", "4", "9", "-", "a"} {
			if more > 0 {
				all(s+x, more-1)
			}
		}
	}
	all("", 5)
}

// textError tells what FromText returns for a short text, of numbers below 2^31.
func textError(s string) api.Errno {
	parts := strings.Split(s, ".")
	for _, p := range parts {
		if p == "" || strings.Trim(p, "0123456789") != "" || p != "0" && strings.HasPrefix(p, "0") {
			return api.ErrForm
		}
	}
	first := len(parts[0]) == 1 && strings.Contains("01", parts[0])
	if len(parts) < 2 || !first && parts[0] != "2" || first && (len(parts[1]) > 2 || len(parts[1]) == 2 && parts[1] >= "40") {
		return api.ErrArg
	}
	return api.OK
}
