package text

import (
	"iter"
	"strings"
	"unicode/utf8"

	"quittance/head"
)

const (
	noSign   = -1             // stands for what is no character; no kind has it
	bmpBytes = 2              // of each character
	marks    = " '()+,-./:=?" // what a Printable text has beside letters and digits
)

// has reports whether texts of that kind may have the character r.
func has(kind int, r rune) bool {
	switch kind {
	case head.Utf8:
		return utf8.ValidRune(r)
	case head.Printable:
		return plain(r) || strings.ContainsRune(marks, r)
	case head.Teletex:
		return 0 <= r && r <= 0xff
	case head.Ia5:
		return 0 <= r && r <= 0x7f
	case head.Visible:
		return ' ' <= r && r <= '~'
	case head.Bmp:
		return utf8.ValidRune(r) && r <= 0xffff
	}
	return false
}

// plain reports whether r is a letter or a digit of ASCII.
func plain(r rune) bool {
	return 'a' <= r && r <= 'z' || 'A' <= r && r <= 'Z' || '0' <= r && r <= '9'
}

// encode appends the bytes of r in a text of that kind.
func encode(b []byte, kind int, r rune) []byte {
	switch kind {
	case head.Utf8:
		return utf8.AppendRune(b, r)
	case head.Bmp:
		return append(b, byte(r>>8), byte(r))
	}
	return append(b, byte(r))
}

// runes produces the characters of t, with noSign for bytes that are none. Whether the kind has them is left to the caller.
func runes(t Text) iter.Seq[rune] {
	return func(yield func(rune) bool) {
		for at := 0; at < len(t.Bytes); {
			r, size := decode(t.Kind, t.Bytes[at:])
			if !yield(r) {
				return
			}
			at += size
		}
	}
}

// decode returns the first character of b, which is not empty, and how many bytes it has.
func decode(kind int, b []byte) (rune, int) {
	switch kind {
	case head.Utf8:
		return decodeUtf8(b)
	case head.Bmp:
		return decodeBmp(b)
	}
	return rune(b[0]), 1
}

// decodeUtf8 tells wrong bytes from the character fffd, for which the library has the same rune: wrong ones have the size 1.
func decodeUtf8(b []byte) (rune, int) {
	r, size := utf8.DecodeRune(b)
	if r == utf8.RuneError && size == 1 {
		return noSign, 1
	}
	return r, size
}

func decodeBmp(b []byte) (rune, int) {
	if len(b) < bmpBytes {
		return noSign, len(b)
	}
	return rune(b[0])<<8 | rune(b[1]), bmpBytes
}

// numbered produces the characters with these numbers, with noSign for a number that does not fit a rune: cut off, it could become a character.
func numbered(signs []int) iter.Seq[rune] {
	return func(yield func(rune) bool) {
		for _, sign := range signs {
			r := rune(sign)
			if int(r) != sign {
				r = noSign
			}
			if !yield(r) {
				return
			}
		}
	}
}
