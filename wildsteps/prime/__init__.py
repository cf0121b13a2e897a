"""Numbers, polynomials and broken lines, seen from one prime."""
