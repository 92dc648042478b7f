"""Claims about operators with names: which tuples are claims, and which claims are true."""

from slopewords.base.arithmetic import is_within
from slopewords.errors import InvalidOperation, TooMany
from slopewords.func.functions import Function
from slopewords.kin.leading import does_lead
from slopewords.oper.division import is_right_factor
from slopewords.turn.norms import norm
from slopewords.turn.turns import is_flat

LONGEST_NAME = 8
LETTERS = "abcdefghijklmnopqrstuvwxyz"
MOST_DEGREE = 6
# How many names stand behind the word of a claim, and how many further values behind them.
NAMED = {"degree": 1, "makes": 1, "product": 3, "factor": 2, "flat": 1, "norms": 2, "leads": 3}
FURTHER = {"degree": 1, "makes": 2}


def is_name(value):
    """Whether the value is a name."""
    if not isinstance(value, str) or not 1 <= len(value) <= LONGEST_NAME:
        return False
    return all([sign in LETTERS for sign in value])


def is_claim(prime, value):
    """Whether the value is a claim about operators modulo a prime."""
    if not isinstance(value, tuple) or not value or not isinstance(value[0], str) or value[0] not in NAMED:
        return False
    many = NAMED[value[0]] + 1
    if len(value) != many + FURTHER.get(value[0], 0) or not all([is_name(name) for name in value[1:many]]):
        return False
    if value[0] == "degree":
        return is_within(value[2], -1, MOST_DEGREE)
    return all([isinstance(further, Function) and further.prime == prime for further in value[many:]])


def names_in(claim):
    """The names in a claim, in their sequence."""
    return claim[1:NAMED[claim[0]] + 1]


def is_true(claim, kept):
    """Whether a claim is true of the operators that are kept under names."""
    if not all([name in kept for name in names_in(claim)]):
        return False
    operators = [kept[name] for name in names_in(claim)]
    if claim[0] == "degree":
        return operators[0].degree == claim[2]
    if claim[0] == "makes":
        return operators[0](claim[2]) == claim[3]
    if claim[0] == "product":
        return operators[0] * operators[1] == operators[2]
    if claim[0] == "factor":
        return is_right_factor(operators[0], operators[1])
    return is_true_if_asked(claim[0], operators)


def is_true_if_asked(word, operators):
    """Whether a claim is true that is not true where what it asks raises an error."""
    try:
        if word == "flat":
            return is_flat(operators[0])
        if word == "norms":
            return norm(operators[0]) == norm(operators[1])
        return does_lead(operators[0], operators[1], operators[2])
    except (InvalidOperation, TooMany):
        return False
