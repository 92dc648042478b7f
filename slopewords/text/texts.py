"""Texts of polynomials, functions and operators, written and read."""

from slopewords.base.polys import check_poly, check_prime
from slopewords.errors import ParseError, TooMany
from slopewords.func.functions import check_function, poly_text
from slopewords.oper.operators import check_operator
from slopewords.text.reader import Reader, check_text, is_sign, list_signs

MOST_TEXT = 3000
MAX_POWER = 60
MAX_SLOPES = 8


def write_poly(prime, poly):
    """The written text of a polynomial."""
    check_prime(prime)
    check_poly(prime, poly)
    return poly_text(poly)


def write_function(function):
    """The written text of a function."""
    check_function(function)
    return short_text(str(function))


def write_operator(operator):
    """The written text of an operator."""
    check_operator(operator)
    return short_text(str(operator))


def short_text(text):
    """A text; refused if it is too long."""
    if len(text) > MOST_TEXT:
        raise TooMany(MOST_TEXT)
    return text


def reader_of(prime, text):
    """A reader of a text."""
    check_prime(prime)
    check_text(text)
    return Reader(prime, text)


def read_poly(prime, text):
    """The polynomial of a text."""
    reader = reader_of(prime, text)
    return reader.whole(reader.polynomial())


def read_function(prime, text):
    """The function of a text."""
    reader = reader_of(prime, text)
    return reader.whole(reader.quotient())


def read_operator(prime, text):
    """The operator of a text."""
    reader = reader_of(prime, text)
    return reader.whole(reader.sum_of_parts())


def read_word(prime, text):
    """The operator of a word."""
    reader = reader_of(prime, text)
    return reader.whole(reader.word())


def signs(text):
    """A generator of the pairs of a spot and a sign of a text."""
    check_text(text)
    for spot, sign in list_signs(text):
        if sign:
            if not is_sign(sign):
                raise ParseError(spot)
            yield spot, sign


def is_written(prime, value):
    """Whether the value is the written text of some operator with short enough powers."""
    check_prime(prime)
    if not isinstance(value, str):
        return False
    reader = Reader(prime, value)
    try:
        operator = reader.whole(reader.sum_of_parts())
    except ParseError:
        return False
    return str(operator) == value
