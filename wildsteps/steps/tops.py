"""Top polynomials that tell each field with given sizes and a given step number at least once."""

from wildsteps.fields.fields import Field
from wildsteps.fields.members import whole_low
from wildsteps.fields.residues import digit_by_index
from wildsteps.prime.whole import exponent_of, whole_power


def least_height(prime, step_size, number, place):
    """The least value of the number at x ** place that the step number lets."""
    if place == 0:
        return 1
    # The least of all e v(k a_k) + k - e, taken by one place alone, is the step number.
    missing = number + step_size - place - step_size * exponent_of(prime, place)
    return max(1, (missing + step_size - 1) // step_size)


def is_exact_place(step_size, number, place):
    """Whether the number at x ** place must have the least value that is let."""
    return place == 0 or (place - number) % step_size == 0


def free_digits(prime, step_size, number):
    """The triples (place, exponent, least index) of all digits that matter."""
    # Beyond this value a change of the top polynomial leaves the field as it is.
    most = step_size + number + step_size // (prime - 1)
    found = []
    for place in range(step_size):
        least = least_height(prime, step_size, number, place)
        if is_exact_place(step_size, number, place):
            found.append((place, least, 1))
            least = least + 1
        exponent = least
        while step_size * exponent + place <= most:
            found.append((place, exponent, 0))
            exponent = exponent + 1
    return found


def indices_of(counts, index):
    """The digits of an index, the count at each place telling how many digits there are."""
    left = index
    found = []
    for count in counts:
        found.append(left % count)
        left = left // count
    return found


def top_by_digits(plain, step_size, free, indices):
    """The top polynomial with digits at the free places, told by their indices."""
    rows = [whole_low(plain.plain_size, 0)] * step_size
    for (place, exponent, least), index in zip(free, indices):
        power = whole_power(plain.prime, exponent)
        digit = digit_by_index(plain, index + least)
        rows[place] = tuple([entry + power * number for entry, number in zip(rows[place], digit)])
    return tuple(rows) + (whole_low(plain.plain_size, 1),)


def field_by_index(plain, step_size, number, index):
    """The field with the index among those that have the step number; each such field is alike to one of them."""
    free = free_digits(plain.prime, step_size, number)
    counts = [plain.residues - least for _, _, least in free]
    return Field(plain.prime, plain.low, top_by_digits(plain, step_size, free, indices_of(counts, index)))
