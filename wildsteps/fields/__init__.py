"""Fields over the numbers of one prime, and their members."""
