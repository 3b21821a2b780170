package wavelet

// span is a piece of a history as one number: the version where it begins, and 1i for each entry that it goes on; one whose 1i are below 0 goes back.
// Whole numbers are exact in it up to 2^53, which is more than a history within the limits goes on.
type span complex128

// between is the span from one version to another. It is floats that are taken from one another: what lies between two ints may be more than an int.
func between(from, to int) span {
	return span(complex(float64(from), float64(to)-float64(from)))
}

// reaches tells whether s goes on, or stays, and ends at a version.
func (s span) reaches(to int) bool {
	return imag(s) >= 0 && real(s)+imag(s) == float64(to)
}

// from is the version where s begins.
func (s span) from() int {
	return int(real(s))
}

// size is how many entries s goes on.
func (s span) size() int {
	return int(imag(s))
}

// next is s without its first entry: it begins one version later, and ends where it did.
func (s span) next() span {
	return s + (1 - 1i)
}
