"""The signs of texts, and a reader that goes through them sign by sign."""

from slopewords.base.arithmetic import trimmed
from slopewords.errors import ParseError
from slopewords.func.functions import Function
from slopewords.oper.operators import Operator, made_operator

MOST_TEXT = 3000
MAX_POWER = 60
MAX_SLOPES = 8
MOST_DIGITS = 60
DIGITS = "0123456789"
LONE_SIGNS = "xD^+-()/*"
BLANK = " "


def check_text(text):
    """Refuse every value that is no string of at most 3000 characters."""
    if not isinstance(text, str) or len(text) > MOST_TEXT:
        raise ParseError(0)


def list_signs(text):
    """The pairs of a spot and a sign; last the end, with the sign "", or a character that is no part of a sign."""
    found = []
    spot = 0
    while spot < len(text):
        end = spot + 1
        if text[spot] in DIGITS:
            while end < len(text) and text[end] in DIGITS:
                end += 1
        if text[spot] != BLANK:
            found.append((spot, text[spot:end]))
            if not is_sign(text[spot:end]):
                return found
        spot = end
    found.append((spot, ""))
    return found


def is_sign(text):
    """Whether a text that begins at a spot of a sign is one."""
    return text[0] in DIGITS or text in LONE_SIGNS


class Reader:
    """A place in a list of signs. What is read is taken; the first sign that cannot stand raises an error."""

    def __init__(self, prime, text):
        self._prime = prime
        self._rest = list_signs(text)
        self._spot = 0

    def seen(self):
        """The sign at the place."""
        return self._rest[self._spot][1]

    def fail(self, spot):
        """Tell the spot of a sign, by its index."""
        raise ParseError(self._rest[spot][0])

    def take(self, wanted):
        """Go on behind a sign."""
        if self.seen() != wanted:
            self.fail(self._spot)
        self._spot += 1

    def took(self, wanted):
        """Whether the sign is the wanted one; then go on behind it."""
        if self.seen() != wanted:
            return False
        self._spot += 1
        return True

    def at_number(self):
        """Whether the sign is a number that is not too great."""
        return self.seen()[:1] in DIGITS and 1 <= len(self.seen()) <= MOST_DIGITS

    def count_to(self, most):
        """A number that is at most so great."""
        if not self.at_number() or int(self.seen()) > most:
            self.fail(self._spot)
        self._spot += 1
        return int(self._rest[self._spot - 1][1])

    def raised_to(self, most):
        """The number behind the sign ^, or 1."""
        return self.count_to(most) if self.took("^") else 1

    def term(self):
        """The pair of a number and of a power of x."""
        if self.took("x"):
            return 1, self.raised_to(MAX_POWER)
        if not self.at_number():
            self.fail(self._spot)
        told = int(self.seen()) % self._prime
        self._spot += 1
        return told, self.raised_to(MAX_POWER) if self.took("x") else 0

    def polynomial(self):
        """A polynomial."""
        numbers = [0 for _ in range(MAX_POWER + 1)]
        factor = -1 if self.took("-") else 1
        while factor:
            told, power = self.term()
            numbers[power] = (numbers[power] + factor * told) % self._prime
            factor = self.next_factor()
        return trimmed(numbers)

    def next_factor(self):
        """1 behind the sign +, -1 behind the sign -, 0 if there is neither."""
        if self.took("+"):
            return 1
        return -1 if self.took("-") else 0

    def quotient(self):
        """A function."""
        if not self.took("("):
            return Function(self._prime, self.polynomial(), (1,))
        top = self.polynomial()
        self.take(")")
        if not self.took("/"):
            return Function(self._prime, top, (1,))
        self.take("(")
        bottom = self.polynomial()
        if not bottom:
            self.fail(self._spot)
        self.take(")")
        return Function(self._prime, top, bottom)

    def part(self):
        """The pair of a function and of an index."""
        if self.took("0"):
            return Function.number(self._prime, 0), 0
        if self.took("D"):
            return Function.number(self._prime, 1), self.raised_to(MAX_SLOPES)
        self.take("(")
        function = self.quotient()
        self.take(")")
        return function, self.raised_to(MAX_SLOPES) if self.took("D") else 0

    def sum_of_parts(self):
        """An operator."""
        found = [Function.number(self._prime, 0) for _ in range(MAX_SLOPES + 1)]
        factor = -1 if self.took("-") else 1
        while factor:
            function, index = self.part()
            found[index] = found[index] + function if factor == 1 else found[index] - function
            factor = self.next_factor()
        return made_operator(self._prime, found)

    def word(self):
        """The product of the factors of a word.

        It is worked out from the right to the left, as then all left factors are short.
        """
        factors = [self.link(MAX_SLOPES)]
        room = MAX_SLOPES - factors[0][1]
        while self.took("*"):
            factors.append(self.link(room))
            room = room - factors[-1][1]
        product = factors[-1][0]
        for operator, _ in factors[:-1][::-1]:
            product = operator * product
        return product

    def link(self, room):
        """The pair of a factor of a word, and of its number at D outside brackets, which has so much room."""
        if self.took("x"):
            power = self.raised_to(MAX_POWER)
            return Operator.times(Function(self._prime, (0,) * power + (1,), (1,))), 0
        if self.took("("):
            operator = self.sum_of_parts()
            self.take(")")
            return operator, 0
        self.take("D")
        if room == 0 and self.seen() != "^":
            self.fail(self._spot - 1)
        many = self.raised_to(room)
        return Operator.slopes(self._prime, many), many

    def whole(self, found):
        """What was read; refused if a sign stands behind it."""
        if self.seen():
            self.fail(self._spot)
        return found
