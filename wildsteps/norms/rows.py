"""Triangular rows of integers: all sums of multiples of some rows, told in one way alone."""

from wildsteps.prime.whole import lowest_terms


def less_share(one, share, other):
    """The row less a share of another one."""
    return [number - share * further for number, further in zip(one, other)]


def empty_rows(width, length):
    """The rows of nothing but 0: so many of them, of a length."""
    return [[0] * length for _ in range(width)]


def with_row(rows, row):
    """Rows with 0 ahead of their index that make, together, what the rows and a further row make."""
    made = list(rows)
    left = list(row)
    for place in range(len(rows)):
        while left[place] != 0:
            head = made[place]
            made[place] = left
            left = less_share(head, head[place] // left[place], left)
    return made


def reduced(rows):
    """The only rows of the kind with heads above 0, and with integers from 0 to the head less 1 above each of them."""
    made = list(rows)
    for place in range(len(rows)):
        head = made[place]
        if head[place] < 0:
            head = [0 - number for number in head]
            made[place] = head
        for above in range(place):
            made[above] = less_share(made[above], made[above][place] // head[place], head)
    return made


def rows_of(rows, width):
    """The triangular rows of all sums of multiples of some rows, of which as many are made as the width tells."""
    made = empty_rows(width, width)
    for row in rows:
        made = with_row(made, row)
    return tuple([tuple(row) for row in reduced(made)])


def shares_in(rows, vector):
    """How often each triangular row is taken to leave the least rest of a vector, and this rest."""
    left = list(vector)
    shares = []
    for place, row in enumerate(rows):
        share = left[place] // row[place]
        shares = shares + [share]
        left = less_share(left, share, row)
    return shares, left


def is_made(rows, vector):
    """Whether a vector is a sum of multiples of triangular rows."""
    _, left = shares_in(rows, vector)
    return not any(left)


def heads_product(rows):
    """The product of all heads."""
    product = 1
    for place, row in enumerate(rows):
        product = product * row[place]
    return product


def met_rows(one, other):
    """The triangular rows of what both lots of rows make."""
    width = len(one)
    made = empty_rows(2 * width, 2 * width)
    for row in one:
        made = with_row(made, tuple(row) + tuple(row))
    for row in other:
        made = with_row(made, tuple(row) + (0,) * width)
    # A sum whose first half is 0 is one of rows of the one, and, but for its sign, of the other.
    return rows_of([row[width:] for row in made[width:]], width)


def sum_of_ratios(ratios):
    """The sum of ratios, in lowest terms."""
    top, bottom = 0, 1
    for further, below in ratios:
        top = top * below + further * bottom
        bottom = bottom * below
    return lowest_terms(top, bottom)


def column_of_inverse(rows, place):
    """The column with the index of the inverse of triangular rows, as ratios."""
    width = len(rows)
    column = [(0, 1)] * width
    column[place] = (1, rows[place][place])
    for above in range(place - 1, -1, -1):
        row = rows[above]
        total = sum_of_ratios([(row[k] * column[k][0], column[k][1]) for k in range(above + 1, place + 1)])
        column[above] = lowest_terms(0 - total[0], total[1] * row[above])
    return column
