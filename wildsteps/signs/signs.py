"""Signs of two numbers at all places, solutions of forms, and products of places with told signs."""

from wildsteps.checks import check_integer, is_any_integer, is_any_number, is_between, is_integer_tuple
from wildsteps.errors import InvalidNumber, InvalidOperation
from wildsteps.prime.numbers import PRIMES, top_and_bottom
from wildsteps.signs.forms import form_solution
from wildsteps.signs.primes import is_prime_number, legendre
from wildsteps.signs.products import places_with_signs, product_of_places
from wildsteps.signs.symbols import divisors_of_number, is_square_class, places_of, sign_of, whole_class

MOST_PLACE = 1000000
MOST_SIGNED = 1000000
MOST_TOLD = 14
MOST_GIVEN = 4


def is_place(value):
    """Whether the value is a place."""
    if not is_between(value, 0, MOST_PLACE):
        return False
    return value == 0 or is_prime_number(value)


def check_place(place):
    """Refuse what is no place."""
    if not is_place(place):
        raise InvalidNumber(place)


def check_signed(number):
    """Refuse what is no number other than 0 with integers of at most a million."""
    if not is_any_number(number):
        raise InvalidNumber(number)
    top, bottom = top_and_bottom(number)
    if top == 0 or abs(top) > MOST_SIGNED or bottom > MOST_SIGNED:
        raise InvalidNumber(number)


def square_sign(place, number):
    """0 for an integer that the odd prime divides, 1 for a square modulo it, -1 otherwise."""
    check_place(place)
    if place in (0, 2):
        raise InvalidNumber(place)
    check_integer(number)
    return legendre(place, number)


def is_square_at(place, one):
    """Whether a number is a square at a place."""
    check_place(place)
    check_signed(one)
    return is_square_class(place, whole_class(one))


def sign_at(place, one, other):
    """The sign of two numbers at a place."""
    check_place(place)
    check_signed(one)
    check_signed(other)
    return sign_of(place, whole_class(one), whole_class(other))


def negative_places(one, other):
    """The places at which the sign of two numbers is -1, ascending."""
    places = places_of(divisors_of_number(one) + divisors_of_number(other))
    return tuple([place for place in places if sign_of(place, whole_class(one), whole_class(other)) == -1])


def sign_places(one, other):
    """The places at which the sign is -1."""
    check_signed(one)
    check_signed(other)
    return negative_places(one, other)


def check_signed_integers(one, other):
    """Refuse what is no integer other than 0 of at most a million."""
    for number in (one, other):
        check_signed(number)
        if not is_any_integer(number):
            raise InvalidNumber(number)


def solved_form(one, other):
    """A solution of the form of two integers, or a place that shows that there is none."""
    check_signed_integers(one, other)
    places = negative_places(one, other)
    if len(places) > 0:
        return ("place", places[0])
    return ("solution", form_solution(one, other))


def is_solution(one, other, value):
    """Whether the value is a solution, with integers of any length."""
    if not is_integer_tuple(value) or len(value) != 3 or not any(value):
        return False
    x, y, z = value
    return one * x * x + other * y * y == z * z


def is_solved_form(one, other, value):
    """Whether the value is a solution, or such a place, behind its word."""
    check_signed_integers(one, other)
    if not isinstance(value, tuple) or len(value) != 2 or not isinstance(value[0], str):
        return False
    if value[0] == "solution":
        return is_solution(one, other, value[1])
    return value[0] == "place" and is_place(value[1]) and sign_of(value[1], one, other) == -1


def are_ascending_places(value, most):
    """Whether the value is an ascending tuple of at most so many places."""
    if not is_integer_tuple(value) or len(value) > most:
        return False
    return all([is_place(place) for place in value]) and list(value) == sorted(set(value))


def check_places(places):
    """Refuse what is no ascending tuple of few of the least places."""
    if not are_ascending_places(places, MOST_GIVEN) or not all([place in (0,) + PRIMES for place in places]):
        raise InvalidOperation("places are an ascending tuple of at most four of 0, 2, 3, 5 and 7")


def places_by_signs(one, places):
    """Places that tell a product whose sign with a number is -1 at the told places alone, None if there is none."""
    check_signed(one)
    check_places(places)
    return places_with_signs(whole_class(one), divisors_of_number(one), places)


def are_places_by_signs(one, places, value):
    """Whether the value is such a tuple of places."""
    check_signed(one)
    check_places(places)
    if not are_ascending_places(value, MOST_TOLD):
        return False
    number, product = whole_class(one), product_of_places(value)
    asked = places_of(divisors_of_number(one) + list(value) + list(places))
    return places == tuple([place for place in asked if sign_of(place, number, product) == -1])
