"""Exact sums, products and values of polynomials with integers, without any limits."""


def trimmed(numbers):
    """The polynomial with these numbers, without zeros at its end."""
    many = len(numbers)
    while many > 0 and numbers[many - 1] == 0:
        many = many - 1
    return tuple(numbers[:many])


def added(one, other):
    """The sum."""
    result = [0] * max(len(one), len(other))
    for place, number in enumerate(one):
        result[place] += number
    for place, number in enumerate(other):
        result[place] += number
    return trimmed(result)


def multiplied(one, other):
    """The product."""
    result = [0] * (len(one) + len(other))
    for place, number in enumerate(one):
        for further, factor in enumerate(other):
            result[place + further] += number * factor
    return trimmed(result)


def evaluated(polynomial, number):
    """The value at an integer."""
    result = 0
    for coefficient in polynomial[::-1]:
        result = result * number + coefficient
    return result


def derived(polynomial):
    """The derivative."""
    return tuple([place * polynomial[place] for place in range(1, len(polynomial))])


def moved(polynomial, number):
    """The polynomial at x + number."""
    result = ()
    for coefficient in polynomial[::-1]:
        result = added(multiplied(result, (number, 1)), (coefficient,))
    return result


def divided(one, other):
    """The quotient and the rest by a monic polynomial."""
    degree = len(other) - 1
    rest = list(one)
    quotient = [0] * max(0, len(one) - degree)
    for place in range(len(one) - degree - 1, -1, -1):
        head = rest[place + degree]
        quotient[place] = head
        for further in range(degree + 1):
            rest[place + further] -= head * other[further]
    return trimmed(quotient), trimmed(rest)
