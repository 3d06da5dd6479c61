package octet_test

import (
	"bytes"
	"strings"
	"testing"

	"quittance/api"
	"quittance/octet"
)

// P1.5
func TestHex(t *testing.T) {
	for _, x := range []struct {
		in   []byte
		want string
	}{
		{nil, ""}, {[]byte{}, ""}, {[]byte{0}, "00"}, {[]byte{1}, "01"}, {[]byte{16}, "10"}, {[]byte{0, 171}, "00ab"},
		{[]byte{255}, "ff"}, {[]byte{0x01, 0x23, 0x45, 0x67, 0x89, 0xab, 0xcd, 0xef}, "0123456789abcdef"},
	} {
		if s := octet.Hex(x.in); s != x.want {
			t.Errorf("Hex(%v) = %q", x.in, s)
		}
		if b, e := octet.Unhex(x.want); !bytes.Equal(b, x.in) || e != api.OK {
			t.Errorf("Unhex(%q) = %v, %d", x.want, b, e)
		}
	}
}

// P1.5: for every text of two bytes, Unhex accepts it only if both are lowercase digits.
func TestUnhexOfAllPairs(t *testing.T) {
	const digits = "0123456789abcdef"
	for high := range 256 {
		for low := range 256 {
			s := string([]byte{byte(high), byte(low)})
			h, l := strings.IndexByte(digits, s[0]), strings.IndexByte(digits, s[1])
			b, e := octet.Unhex(s)
			if h < 0 || l < 0 {
				if e != api.ErrForm || b != nil {
					t.Fatalf("Unhex(%q) = %v, %d", s, b, e)
				}
				continue
			}
			if e != api.OK || !bytes.Equal(b, []byte{byte(16*h + l)}) {
				t.Fatalf("Unhex(%q) = %v, %d", s, b, e)
			}
			if octet.Hex(b) != s {
				t.Fatalf("Hex(%v) = %q", b, octet.Hex(b))
			}
		}
	}
}

// P1.5: nothing comes beside the error, even if the text begins well.
func TestUnhexRefuses(t *testing.T) {
	for _, s := range []string{
		"0", "a", "000", "00a", "0A", "A0", "AB", "aB", "0g", "g0", "G0", " 0", "0 ", "00 ", " 00", "0x", "0x00", "-1", "+1",
		"00\n", "00\x00", "\x00\x00", "\xff\xff", "é", "00é", "0011AB", "AB0011", "00112g", "ab:cd", "00 11",
	} {
		if b, e := octet.Unhex(s); b != nil || e != api.ErrForm {
			t.Errorf("Unhex(%q) = %v, %d", s, b, e)
		}
	}
}

// P1.6
func TestUnhexIsNewMemory(t *testing.T) {
	a, _ := octet.Unhex("0102")
	b, _ := octet.Unhex("0102")
	spoil(a)
	if !bytes.Equal(b, []byte{1, 2}) {
		t.Error(b)
	}
}
