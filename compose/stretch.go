package compose

// stretch is a piece of what a part keeps, puts or cuts, as one number: the place there where it begins, and 1i for each byte that it goes on.
// Whole numbers are exact in it up to 2^53, which is more than an operation within the limits goes over.
type stretch complex128

// whole is all of what a part of n bytes keeps, puts or cuts.
func whole(n int) stretch {
	return stretch(complex(0, float64(n)))
}

// empty tells whether s goes over no byte.
func (s stretch) empty() bool {
	return imag(s) < 1
}

// first is the beginning of s that is no longer than t.
func (s stretch) first(t stretch) stretch {
	return stretch(complex(real(s), min(imag(s), imag(t))))
}

// behind is what is left of s behind a beginning as long as t.
func (s stretch) behind(t stretch) stretch {
	return s + stretch(complex(imag(t), -imag(t)))
}

// size is how many bytes s goes over.
func (s stretch) size() int {
	return int(imag(s))
}

// of is the piece of a text that s is.
func (s stretch) of(text string) string {
	return text[int(real(s)):int(real(s)+imag(s))]
}
