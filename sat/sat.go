// Package sat has numbers from 0 on that stop at Most instead of wrapping.
package sat

const most = 1<<63 - 1

// number is what n counts as.
func number(n int) int {
	return max(n, 0)
}

// Add is the sum of a and b.
func Add(a, b int) int {
	a, b = number(a), number(b)
	// The room is asked ahead of adding, since a sum that wrapped can't be told from others.
	if a > most-b {
		return most
	}
	return a + b
}

// Mul is the product of a and b.
func Mul(a, b int) int {
	a, b = number(a), number(b)
	if b == 0 {
		return 0
	}
	if a > most/b {
		return most
	}
	return a * b
}

// Less is a without b, and 0 where b is greater.
func Less(a, b int) int {
	a, b = number(a), number(b)
	return max(a-b, 0)
}

// Sum is the sum of all of l.
func Sum(l []int) int {
	all := 0
	for _, n := range l {
		all = Add(all, n)
	}
	return all
}

// Full tells whether n is Most: such a sum may have been cut.
func Full(n int) bool {
	return n == most
}
