"""Where rows of polynomials get poles when a table multiplies them, and short rows that get few, without checks.

A *group* is a pair of a polynomial and of the rests of a system's tops by it. The polynomials of all groups have no
common divisors, and their product divides the system's bottom. A row is *regular* at a group if its product with the
table has no pole at the places of the polynomial. A *base* is a list of independent rows of polynomials.
"""

from slopewords.base.arithmetic import common_divisor, common_triple, coprime_parts, multiply, rest_of
from slopewords.line.elimination import divisible_rows, reduced_rows, sum_of_products
from slopewords.turn.whole import idle_tops

MOST_GROUPS = 20
MOST_BASES = 32


def pole_groups(prime, system, bottoms):
    """The groups with the longest polynomials; the bottoms are those of all functions of the table."""
    found = []
    for part in coprime_parts(prime, bottoms):
        level = part
        while not rest_of(prime, system[1], multiply(prime, level, part)):
            level = multiply(prime, level, part)
        found.append((-len(level), level))
    return [(level, [[rest_of(prime, top, level) for top in row] for row in system[0]])
            for _, level in sorted(found)[:MOST_GROUPS]]


def is_regular(prime, row, group):
    """Whether a row is regular at a group."""
    level, tops = group
    return not any([rest_of(prime, sum_of_products(prime, row, column), level) for column in zip(*tops)])


def regular_places(prime, base, groups):
    """The indices of the groups at which all rows of a base are regular."""
    return tuple([place for place, group in enumerate(groups)
                  if all([is_regular(prime, row, group) for row in base])])


def pole_degree(prime, row, groups):
    """The degrees of the polynomials of the groups at which a row is not regular, added up."""
    return sum([len(group[0]) - 1 for group in groups if not is_regular(prime, row, group)])


def longest_degree(row):
    """The greatest degree of the polynomials in a row."""
    return max([len(entry) for entry in row]) - 1


def short_bases(prime, groups, size):
    """Bases of short rows: that of all rows, and those of the rows that are regular at some groups."""
    whole = idle_tops(size)
    found = {regular_places(prime, whole, groups): whole}
    chosen = []
    for group in groups:
        base = regular_base(prime, whole, group)
        places = regular_places(prime, base, groups)
        if base and places not in found:
            found[places] = base
            chosen.append(group)
    bases = list(found.values())
    place = 1
    while place < len(bases) and len(bases) < MOST_BASES:
        for group in chosen:
            base = regular_base(prime, bases[place], group)
            places = regular_places(prime, base, groups)
            if base and places not in found:
                found[places] = base
                bases.append(base)
        place += 1
    return bases


def regular_base(prime, base, group):
    """A base of rows that are made of those of another one, regular at a group, and not much longer.

    In a table of n rows with one degree more the determinant has n more zeros; at a group it has fewer of them.
    """
    level, tops = group
    least = max([longest_degree(row) for row in base])
    rows = base
    for column in zip(*tops):
        if any([rest_of(prime, sum_of_products(prime, row, column), level) for row in rows]):
            rows = reduced_rows(prime, divisible_rows(prime, rows, column, level))
    return [row for row in rows if is_worth(row, least, level)]


def is_worth(row, least, level):
    """Whether what a row is longer than told costs fewer zeros than the degree of a polynomial tells."""
    return len(row) * (longest_degree(row) - least) < len(level) - 1


def image_rows(prime, groups):
    """For each group a short row, if there is one, to whose multiples a row of the tops belongs, modulo the polynomial.

    If the tops have the rank 1 there, this row moves to multiples of itself only, as far as poles are concerned.
    """
    found = []
    for level, tops in groups:
        lines = [line for line in tops if any([common_divisor(prime, top, level) == (1,) for top in line])]
        if lines:
            row = shortest_multiple(prime, lines[0], level)
            if is_worth(row, 0, level):
                found.append(row)
    return found


def shortest_multiple(prime, line, level):
    """The shortest multiple of a row modulo a polynomial; one entry has no common divisor with this one."""
    units = [common_divisor(prime, top, level) == (1,) for top in line]
    place = units.index(True)
    undone = common_triple(prime, line[place], level)[1]
    rows = [[level if column == row else () for column in range(len(line))] for row in range(len(line))]
    rows[place] = [rest_of(prime, multiply(prime, undone, top), level) for top in line]
    short = reduced_rows(prime, rows)
    sizes = [longest_degree(row) for row in short]
    return short[sizes.index(min(sizes))]
