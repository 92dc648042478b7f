"""A desk: operators under names, claims about them, and deeds that can be taken back."""

from slopewords.base.arithmetic import is_integer
from slopewords.base.polys import check_prime
from slopewords.desk.claims import is_claim, is_name, is_true, names_in
from slopewords.errors import InvalidName, InvalidNumber, InvalidOperation, NothingToUndo, Refused, TooMany, UnknownName
from slopewords.func.functions import check_function, check_same_prime
from slopewords.oper.changes import tilt, turn_over
from slopewords.oper.operators import check_operator
from slopewords.turn.turns import is_long

MAX_KEPT = 8
MAX_CLAIMS = 10
MAX_DEGREE = 6
MAX_TOP = 40


class Moment:
    """What a desk has between two deeds. It never changes, so desks can share it."""

    def __init__(self, kept, told, before):
        self.kept = kept
        self.order = sorted(list(kept))
        self.told = told
        self.before = before
        self.steps = 0 if before is None else before.steps + 1


class Desk:
    """Operators of one prime under names, claims that are true of them, and what was ahead of each deed."""

    def __init__(self, prime):
        check_prime(prime)
        self._prime = prime
        self._now = Moment({}, (), None)
        self._later = ()

    @property
    def prime(self):
        """The prime."""
        return self._prime

    @property
    def names(self):
        """The names with an operator, ascending."""
        return tuple(self._now.order)

    @property
    def claims(self):
        """The claims, in the sequence in which they were made."""
        return self._now.told

    @property
    def deeds(self):
        """How many deeds stand."""
        return self._now.steps

    def put(self, name, operator):
        """Keep an operator under a name."""
        check_name(name)
        check_operator(operator)
        check_same_prime((self, operator))
        return self._keep(name, operator)

    def multiply(self, name, one, other):
        """Keep the product of the operators with two names."""
        check_name(name)
        factors = [self[wanted] for wanted in (one, other)]
        return self._keep(name, factors[0] * factors[1])

    def _keep(self, name, operator):
        kept = self._now.kept
        if name not in kept and len(kept) >= MAX_KEPT:
            raise TooMany(MAX_KEPT)
        if operator.degree > MAX_DEGREE:
            raise TooMany(MAX_DEGREE)
        check_lengths([operator])
        return self._settle({**kept, name: operator}, self._now.told, claims_about(self._now.told, name))

    def tilt_all(self, function):
        """Tilt all operators by a function."""
        check_function(function)
        check_same_prime((self, function))
        kept = self._now.kept
        return self._change({name: tilt(kept[name], function) for name in kept})

    def turn_all(self):
        """Turn all operators over."""
        kept = self._now.kept
        return self._change({name: turn_over(kept[name]) for name in kept})

    def _change(self, kept):
        check_lengths([kept[name] for name in kept])
        return self._settle(kept, self._now.told, self._now.told)

    def drop(self, name):
        """Leave an operator out."""
        if name not in self:
            raise UnknownName(name)
        kept, told = self._now.kept, self._now.told
        return self._settle({other: kept[other] for other in kept if other != name}, told, claims_about(told, name))

    def claim(self, claim):
        """Make a further claim."""
        if not is_claim(self._prime, claim):
            raise InvalidOperation("not a claim")
        told = self._now.told
        if claim in told:
            raise InvalidOperation("the desk has the claim")
        if len(told) >= MAX_CLAIMS:
            raise TooMany(MAX_CLAIMS)
        for name in names_in(claim):
            if name not in self._now.kept:
                raise UnknownName(name)
        return self._settle(self._now.kept, (*told, claim), (claim,))

    def let_go(self, claim):
        """Leave a claim out."""
        told = self._now.told
        if not is_claim(self._prime, claim) or claim not in told:
            raise InvalidOperation("the desk does not have the claim")
        return self._settle(self._now.kept, tuple([other for other in told if other != claim]), ())

    def _settle(self, kept, told, doubted):
        for claim in doubted:
            if not is_true(claim, kept):
                raise Refused(claim)
        self._now = Moment(kept, told, self._now)
        self._later = ()
        return self._now.steps

    def undo(self, *, times=1):
        """Take back the last deeds, so many of them."""
        check_times(times)
        if times > self._now.steps:
            raise NothingToUndo(times)
        for _ in range(times):
            self._later = (self._now, self._later)
            self._now = self._now.before
        return self._now.steps

    def redo(self, *, times=1):
        """Do deeds again that were taken back, so many of them."""
        check_times(times)
        found, later = self._now, self._later
        for _ in range(times):
            if not later:
                raise NothingToUndo(times)
            found, later = later
        self._now, self._later = found, later
        return found.steps

    def during(self, call):
        """What a call makes of the desk; behind it all is as it was."""
        now, later = self._now, self._later
        try:
            return call(self)
        finally:
            self._now, self._later = now, later

    def twin(self):
        """An equal desk with the same deeds that goes on by itself."""
        made = Desk(self._prime)
        made._now = self._now
        made._later = self._later
        return made

    def __getitem__(self, at):
        if not is_name(at) or at not in self._now.kept:
            raise UnknownName(at)
        return self._now.kept[at]

    def __contains__(self, x):
        return is_name(x) and x in self._now.kept

    def __len__(self):
        return len(self._now.order)

    def __iter__(self):
        return iter(self._now.order)

    def __eq__(self, other):
        return (isinstance(other, Desk) and self._prime == other._prime and self._now.kept == other._now.kept
                and self._now.told == other._now.told)

    def __str__(self):
        return f"desk modulo {self._prime} of {len(self._now.order)} operators, {len(self._now.told)} claims"


def check_name(name):
    """Refuse every value that is no name."""
    if not is_name(name):
        raise InvalidName("not a string of one to eight characters from a to z")


def check_times(times):
    """Refuse every value that is no integer from 0 on."""
    if not is_integer(times) or times < 0:
        raise InvalidNumber(times)


def check_lengths(operators):
    """Refuse operators with too long functions."""
    if any([is_long(entry, MAX_TOP) for operator in operators for entry in operator.entries]):
        raise TooMany(MAX_TOP)


def claims_about(told, name):
    """The claims with a name in them: a deed with this name alone leaves all others true."""
    return [claim for claim in told if name in names_in(claim)]
