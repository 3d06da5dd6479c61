package octet

import "quittance/api"

const digits = "0123456789abcdef"

// Hex returns two lowercase digits for each byte, the more significant one first.
func Hex(b []byte) string {
	out := make([]byte, 0, 2*len(b))
	for _, x := range b {
		out = append(out, digits[x>>4], digits[x&15])
	}
	return string(out)
}

// Unhex returns the bytes whose hex text is s. Only the text that Hex writes is accepted, so that bytes have one text.
func Unhex(s string) ([]byte, api.Errno) {
	if len(s)%2 != 0 {
		return nil, api.ErrForm
	}
	out := make([]byte, 0, len(s)/2)
	for i := 0; i < len(s); i += 2 {
		high, okHigh := digit(s[i])
		low, okLow := digit(s[i+1])
		if !okHigh || !okLow {
			return nil, api.ErrForm
		}
		out = append(out, high<<4|low)
	}
	return out, api.OK
}

// digit returns the value of a lowercase hexadecimal digit, and whether it is one.
func digit(x byte) (byte, bool) {
	switch {
	case '0' <= x && x <= '9':
		return x - '0', true
	case 'a' <= x && x <= 'f':
		return x - 'a' + 10, true
	}
	return 0, false
}
