"""Wildsteps: fields over the numbers of one prime, their steps, and the norms that tell them."""
