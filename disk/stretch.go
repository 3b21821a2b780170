package disk

// stretch is a piece of a disk as one number: the place where it begins, and 1i for each byte that it goes on.
// Whole numbers are exact in it up to 2^53, which is more than any disk has.
type stretch complex128

// none is the stretch of no bytes at a place.
func none(at int) stretch {
	return stretch(complex(float64(at), 0))
}

// longer is s with n bytes more.
func (s stretch) longer(n int) stretch {
	return s + stretch(complex(0, float64(n)))
}

// from is the place where s begins.
func (s stretch) from() int {
	return int(real(s))
}

// size is how many bytes s goes over.
func (s stretch) size() int {
	return int(imag(s))
}

// end is the place behind s.
func (s stretch) end() int {
	return s.from() + s.size()
}
