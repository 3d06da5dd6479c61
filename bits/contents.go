package bits

import (
	"bytes"

	"quittance/api"
	"quittance/octet"
)

// The only contents of a boolean.
const (
	falseByte = 0
	trueByte  = 255
)

// Parse returns the bit string whose contents are b.
func Parse(b []byte) (String, api.Errno) {
	if len(b) == 0 {
		return String{}, api.ErrForm
	}
	s := String{Unused: int(b[0]), Bytes: b[1:]}
	if !Right(s) {
		return String{}, api.ErrForm
	}
	s.Bytes = bytes.Clone(s.Bytes) // b belongs to the caller
	return s, api.OK
}

// Contents returns the contents of s.
func Contents(s String) ([]byte, api.Errno) {
	if !Right(s) {
		return nil, api.ErrArg
	}
	return octet.Join([]byte{byte(s.Unused)}, s.Bytes), api.OK
}

// ParseBool returns the boolean whose contents are b.
func ParseBool(b []byte) (bool, api.Errno) {
	if len(b) != 1 || b[0] != falseByte && b[0] != trueByte {
		return false, api.ErrForm
	}
	return b[0] == trueByte, api.OK
}

func parseNull(b []byte) (struct{}, api.Errno) {
	if len(b) != 0 {
		return struct{}{}, api.ErrForm
	}
	return struct{}{}, api.OK
}

// parseOctets takes any bytes: an octet string is its contents.
func parseOctets(b []byte) ([]byte, api.Errno) { return b, api.OK }
