package span

import (
	"cmp"
	"slices"
)

// Norm returns the list in order of the seconds that are in any of l: none of its spans is empty or touches the next one.
func Norm(l ...Span) []Span {
	sorted := slices.DeleteFunc(slices.Clone(l), Empty)
	slices.SortFunc(sorted, func(a, b Span) int { return cmp.Compare(a.From, b.From) })
	return folded(nil, sorted, func(out []Span, s Span) []Span {
		last := len(out) - 1
		if last < 0 || Add(out[last].To, 1) < s.From {
			return append(out, s)
		}
		out[last] = Cover(out[last], s)
		return out
	})
}

// Holds reports whether t is in any span of l.
func Holds(l []Span, t int) bool {
	return slices.ContainsFunc(l, func(s Span) bool { return In(s, t) })
}

// Without returns the list in order of the seconds that are in any span of l, but not in s.
func Without(l []Span, s Span) []Span {
	early, late := before(s.From), after(s.To) // every second, if s is empty
	left := folded(nil, l, func(out []Span, x Span) []Span {
		return append(out, Meet(x, early), Meet(x, late))
	})
	return Norm(left...)
}

// before returns the span of the seconds before t.
func before(t int) Span {
	if t == Begin {
		return none()
	}
	return Span{From: Begin, To: t - 1}
}

// after returns the span of the seconds after t.
func after(t int) Span {
	if t == End {
		return none()
	}
	return Span{From: t + 1, To: End}
}
