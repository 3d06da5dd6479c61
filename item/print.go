package item

import (
	"quittance/api"
	"quittance/head"
)

// Right reports whether t is valid. It ends at the first tree that is wrong, deep or late, however many there are behind it.
func Right(t Item) bool {
	count := 0
	for depth, x := range all(t) {
		count++
		if count > api.MaxItems || depth > api.MaxDepth || !sound(x) {
			return false
		}
	}
	return length(t) <= api.MaxInput
}

// sound reports whether t is valid apart from its kids and from its measures.
func sound(t Item) bool {
	if t.Tag.Made {
		return head.Right(t.Tag) && len(t.Bytes) == 0
	}
	return head.Right(t.Tag) && len(t.Kids) == 0
}

// length returns the length of the element of t, and a number just beyond the limit for all that are longer, so that sums cannot overflow.
func length(t Item) int {
	const beyond = api.MaxInput + 1
	n := len(t.Bytes)
	for _, kid := range t.Kids {
		n = min(n+length(kid), beyond)
	}
	n = head.Size(t.Tag, n)
	if n == 0 {
		return beyond
	}
	return min(n, beyond)
}

// Print returns the element of t.
func Print(t Item) ([]byte, api.Errno) {
	if !Right(t) {
		return nil, api.ErrArg
	}
	return element(t)
}

func element(t Item) ([]byte, api.Errno) {
	contents := [][]byte{t.Bytes}
	for _, kid := range t.Kids {
		b, e := element(kid)
		if e != api.OK {
			return nil, e
		}
		contents = append(contents, b)
	}
	return head.Wrap(t.Tag, contents...)
}
