package invert

// stretch is a piece of a document as one number: the place where it begins, and 1i for each byte that it goes on.
// Whole numbers are exact in it up to 2^53, which is more than a document within the limits has bytes.
type stretch complex128

// next is the stretch of n bytes right behind s.
func (s stretch) next(n int) stretch {
	return stretch(complex(real(s)+imag(s), float64(n)))
}

// within tells whether s goes forward, and not beyond doc; its bytes are to be asked for only then.
func (s stretch) within(doc string) bool {
	return imag(s) >= 0 && real(s)+imag(s) <= float64(len(doc))
}

// of is the bytes of doc that s goes over.
func (s stretch) of(doc string) string {
	return doc[int(real(s)):int(real(s)+imag(s))]
}
