package op

// stretch is a piece of a document (or of an operation's parts) as one number: the place where it begins, and 1i for each byte (or part) that it goes on.
// Whole numbers are exact in it up to 2^53, which is more than an operation within the limits goes over.
type stretch complex128

// next is the stretch of n right behind s.
func (s stretch) next(n int) stretch {
	return stretch(complex(real(s)+imag(s), float64(n)))
}

// within tells whether s goes forward, and not beyond size; its places are to be asked for only then.
func (s stretch) within(size int) bool {
	return imag(s) >= 0 && real(s)+imag(s) <= float64(size)
}

// from is the place where s begins.
func (s stretch) from() int {
	return int(real(s))
}

// end is the place behind s.
func (s stretch) end() int {
	return int(real(s) + imag(s))
}
