"""Steps of fields: exponents, counts, complete lists, step lines, towers, and lots of self maps."""
