"""Parts of polynomials with integers: fields of their factors over the numbers of one prime."""
