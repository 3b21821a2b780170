package transform

// stretch is a piece of a document as one number: the place where it begins, and 1i for each byte that it goes on.
// Whole numbers are exact in it up to 2^53, which is more than an operation within the limits goes over.
type stretch complex128

// next is the stretch of n bytes right behind s.
func (s stretch) next(n int) stretch {
	return stretch(complex(s.end(), float64(n)))
}

// end is the place behind s.
func (s stretch) end() float64 {
	return real(s) + imag(s)
}

// shared is how many bytes of the document both s and t go over; none, if that is not above 0.
func (s stretch) shared(t stretch) int {
	return int(min(s.end(), t.end()) - max(real(s), real(t)))
}
