package span

// folded returns what step makes of start and of each element of l, one after another.
func folded[R, E any](start R, l []E, step func(R, E) R) R {
	for _, x := range l {
		start = step(start, x)
	}
	return start
}

// Add returns a plus each of l, one after another; each sum is at least Begin and at most End.
func Add(a int, l ...int) int {
	return folded(a, l, func(sum, n int) int {
		switch {
		case n > 0 && sum > End-n:
			return End
		case n < 0 && sum < Begin-n:
			return Begin
		}
		return sum + n
	})
}

// Sub returns a minus b, at least Begin and at most End.
func Sub(a, b int) int {
	if b == Begin {
		return Add(a, End, 1) // the opposite of Begin is greater than End by 1
	}
	return Add(a, -b)
}

// Neg returns -a, and End for Begin.
func Neg(a int) int { return Sub(0, a) }

// Ends reports whether n is Begin or End.
func Ends(n int) bool { return n == Begin || n == End }
