"""Operators: sums of functions times powers of D, where D makes of a function its slope."""

from slopewords.base.arithmetic import is_within
from slopewords.base.polys import check_prime
from slopewords.errors import InvalidFunction, InvalidNumber, InvalidOperation, InvalidOperator
from slopewords.func.functions import Function, check_function, check_same_prime

MAX_ENTRIES = 9
MAX_RAISED = 8
MAX_INDEX = 1000


class Operator:
    """A tuple of functions, its entries: the one at an index i stands ahead of D ** i. It never changes."""

    def __init__(self, prime, entries):
        check_prime(prime)
        if not are_entries(entries):
            raise InvalidOperator("not a tuple of at most nine functions, the last one not 0")
        if any([entry.prime != prime for entry in entries]):
            raise InvalidOperation("a function of another prime")
        self._prime = prime
        self._entries = entries

    @classmethod
    def slopes(cls, prime, many):
        """D to a power."""
        check_prime(prime)
        if not is_within(many, 0, MAX_RAISED):
            raise InvalidNumber(many)
        return cls(prime, (Function.number(prime, 0),) * many + (Function.number(prime, 1),))

    @classmethod
    def factor(cls, function):
        """D less a function."""
        check_function(function)
        return cls(function.prime, (-function, Function.number(function.prime, 1)))

    @classmethod
    def times(cls, function):
        """The operator that multiplies by a function."""
        check_function(function)
        return cls(function.prime, (function,) if function else ())

    @property
    def prime(self):
        """The prime."""
        return self._prime

    @property
    def entries(self):
        """The tuple of the entries."""
        return self._entries

    @property
    def degree(self):
        """The greatest index of an entry, -1 for the empty operator."""
        return len(self._entries) - 1

    @property
    def head(self):
        """The last entry, 0 for the empty operator."""
        return self._entries[-1] if self._entries else Function.number(self._prime, 0)

    def __call__(self, function):
        """What the operator makes of a function."""
        check_function(function)
        check_same_prime((self, function))
        return made_of(self._entries, function)

    def led(self, function):
        """The function times the operator."""
        check_function(function)
        check_same_prime((self, function))
        return made_operator(self._prime, [function * entry for entry in self._entries])

    def entry(self, number):
        """The entry at an index, 0 above the degree."""
        if not is_within(number, 0, MAX_INDEX):
            raise InvalidNumber(number)
        return self._entries[number] if number < len(self._entries) else Function.number(self._prime, 0)

    def monic(self):
        """The operator divided by its head."""
        if not self._entries:
            raise InvalidOperation("the empty operator has no head")
        head = self._entries[-1]
        return made_operator(self._prime, [entry // head for entry in self._entries])

    def __add__(self, other):
        if not isinstance(other, Operator):
            return NotImplemented
        check_same_prime((self, other))
        return made_operator(self._prime, add_entries(self._entries, other.entries))

    def __sub__(self, other):
        if not isinstance(other, Operator):
            return NotImplemented
        check_same_prime((self, other))
        return made_operator(self._prime, add_entries(self._entries, [-entry for entry in other.entries]))

    def __mul__(self, other):
        if not isinstance(other, Operator):
            return NotImplemented
        return multiply_operator(self, other)

    def __neg__(self):
        return made_operator(self._prime, [-entry for entry in self._entries])

    def __pow__(self, other):
        if not is_within(other, 0, MAX_RAISED):
            raise InvalidNumber(other)
        power = made_operator(self._prime, [Function.number(self._prime, 1)])
        for _ in range(other):
            power = multiply_operator(power, self)
        return power

    def __eq__(self, other):
        return isinstance(other, Operator) and self._prime == other._prime and self._entries == other._entries

    def __bool__(self):
        return bool(self._entries)

    def __len__(self):
        return len(self._entries)

    def __iter__(self):
        return iter(self._entries)

    def __str__(self):
        if not self._entries:
            return "0"
        return " + ".join([entry_text(entry, index) for index, entry in enumerate(self._entries) if entry])


def entry_text(entry, index):
    """The text of an entry ahead of a power of D."""
    if index == 0:
        return f"({entry})"
    return f"({entry}) D" if index == 1 else f"({entry}) D^{index}"


def are_entries(value):
    """Whether the value is a tuple of at most nine functions, the last one not 0."""
    if not isinstance(value, tuple) or len(value) > MAX_ENTRIES:
        return False
    if not all([isinstance(entry, Function) for entry in value]):
        return False
    return not value or bool(value[-1])


def made_operator(prime, entries):
    """The operator with these entries, as many as there are; zeros at the end are left out."""
    size = len(entries)
    while size and not entries[size - 1]:
        size -= 1
    operator = Operator(prime, ())
    operator._entries = tuple(entries[:size])
    return operator


def add_entries(one, other):
    """The sums of entries, index by index."""
    shared = min(len(one), len(other))
    sums = [entry + further for entry, further in zip(one, other)]
    return [*sums, *one[shared:], *other[shared:]]


def slope_entries(entries):
    """The entries of D times an operator."""
    if not entries:
        return []
    zero = Function.number(entries[0].prime, 0)
    return add_entries([zero, *entries], [entry.slope() for entry in entries])


def multiply_operator(one, other):
    """The product of two operators: the sum of the entries of one, each times a power of D times the other.

    Entries that are 0 are left out, as products of many factors have many of them.
    """
    check_same_prime((one, other))
    prime = one.prime
    total = {}
    lifted = {index: entry for index, entry in enumerate(other.entries) if entry}
    for entry in one.entries:
        if entry:
            for index in lifted:
                product = entry * lifted[index]
                total[index] = total[index] + product if index in total else product
        lifted = lifted_once(lifted)
    zero = Function.number(prime, 0)
    return made_operator(prime, [total.get(index, zero) for index in range(len(one) + len(other))])


def lifted_once(entries):
    """The entries of D times an operator, by their indices, for entries that are not 0."""
    found = {index + 1: entry for index, entry in entries.items()}
    for index, entry in entries.items():
        slope = entry.slope()
        if slope:
            found[index] = found[index] + slope if index in found else slope
    return {index: entry for index, entry in found.items() if entry}


def made_of(entries, function):
    """What an operator with these entries makes of a function."""
    made = Function.number(function.prime, 0)
    for entry in entries:
        made = made + entry * function
        function = function.slope()
    return made


def check_operator(operator):
    """Refuse every value that is no operator."""
    if not isinstance(operator, Operator):
        raise InvalidOperator("not an operator")


def commutator(one, other):
    """one other - other one."""
    check_operator(one)
    check_operator(other)
    return one * other - other * one


def is_central(operator):
    """Whether the products of the operator with each one are the same in both orders."""
    check_operator(operator)
    if any([entry for index, entry in enumerate(operator.entries) if index % operator.prime]):
        return False
    return not any([entry.slope() for entry in operator.entries])


def each_made(operator, functions):
    """A generator of what the operator makes of the functions of a tuple."""
    check_operator(operator)
    if not isinstance(functions, tuple):
        raise InvalidFunction("not a tuple of functions")
    for function in functions:
        check_function(function)
    check_same_prime((operator, *functions))
    for function in functions:
        yield made_of(operator.entries, function)
