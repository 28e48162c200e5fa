package pyramid

// split returns the low and high parts of a sequence, which two functions make of each pair of neighbours. The elements are numbers or, so that all columns are split at once, rows.
func split[T any](s []T, low, high func(a, b T) T) (lows, highs []T) {
	for ; len(s) >= 2; s = s[2:] {
		lows = append(lows, low(s[0], s[1]))
		highs = append(highs, high(s[0], s[1]))
	}
	return append(lows, s...), highs
}

// join returns the sequence with these low and high parts; two functions make the elements of a pair of its parts.
func join[T any](lows, highs []T, first, second func(l, d T) T) []T {
	var s []T
	for i, d := range highs {
		s = append(s, first(lows[i], d), second(lows[i], d))
	}
	return append(s, lows[len(highs):]...)
}

// each returns the function that does with the elements of two rows of the same length what do does with two numbers.
func each(do func(a, b int) int) func(a, b []int) []int {
	return func(a, b []int) []int {
		row := make([]int, len(a))
		for i := range row {
			row[i] = do(a[i], b[i])
		}
		return row
	}
}

// mean returns the low part of a pair. A shift rounds down, also below 0.
func mean(a, b int) int {
	return (a + b) >> 1
}

// difference returns the high part of a pair.
func difference(a, b int) int {
	return a - b
}

// first returns the first number of the pair with a low part l and a high part d.
func first(l, d int) int {
	return l + (d+1)>>1
}

// second returns the second number of the pair.
func second(l, d int) int {
	return first(l, d) - d
}
