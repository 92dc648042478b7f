"""Elimination in tables of polynomials of any degrees, without checks of what is passed.

All steps stay among polynomials: each entry is a determinant of entries that were passed, so that degrees stay low.
"""

from slopewords.base.arithmetic import add_scaled, common_divisor, divide, multiply, quotient_of, rest_of, scale


def cleared(prime, row, lead_row, column, last):
    """A row times the lead, less a multiple of the row of the lead, divided by the last lead."""
    lead = lead_row[column]
    factor = scale(prime, row[column], prime - 1)
    if not factor and lead == last:
        return row
    found = []
    for number, further in zip(row, lead_row):
        entry = multiply(prime, lead, number)
        if factor and further:
            entry = add_scaled(prime, entry, multiply(prime, factor, further), 1)
        found.append(quotient_of(prime, entry, last))
    return found


def lead_place(rows, start, column):
    """The index from start on of the row with the shortest entry other than () in a column, or None."""
    usable = [(len(rows[place][column]), place) for place in range(start, len(rows)) if rows[place][column]]
    return min(usable)[1] if usable else None


def eliminate(prime, table, columns, *, whole):
    """The quadruple of rows, the columns of their leads, the last lead, and the sign of the swaps.

    Leads are looked for in so many columns. With whole, all rows have one lead, which stands alone in its column;
    otherwise only the rows below a lead are cleared. Rows without a lead come last.
    """
    rows = [list(row) for row in table]
    leads = []
    last = (1,)
    sign = 1
    for column in range(columns):
        rank = len(leads)
        place = lead_place(rows, rank, column)
        if place is None:
            continue
        if place != rank:
            rows[rank], rows[place] = rows[place], rows[rank]
            sign = -sign
        for number in range(0 if whole else rank + 1, len(rows)):
            if number != rank:
                rows[number] = cleared(prime, rows[number], rows[rank], column, last)
        last = rows[rank][column]
        leads.append(column)
    return rows, leads, last, sign


def kernel_columns(prime, table):
    """A base of all columns of polynomials of which a table of polynomials makes 0, as short as can be told at once."""
    width = len(table[0])
    rows, leads, last, _ = eliminate(prime, table, width, whole=True)
    base = []
    for column in range(width):
        if column not in leads:
            solution = [() for _ in range(width)]
            solution[column] = last
            for row, lead in zip(rows, leads):
                solution[lead] = scale(prime, row[column], prime - 1)
            base.append(without_content(prime, solution))
    return base


def without_content(prime, polys):
    """Polynomials divided by their greatest common divisor."""
    content = ()
    for poly in polys:
        content = common_divisor(prime, content, poly)
    return [quotient_of(prime, poly, content) for poly in polys] if content else list(polys)


def count_rank(prime, table):
    """The rank of a table of polynomials."""
    return len(eliminate(prime, table, len(table[0]), whole=False)[1])


def own_numbers(prime, table):
    """The polynomials at y ** n, .., y ** 0 in the determinant of y less a square table, by Berkowitz's way.

    This needs no division, so nothing that is worked out is longer than the answer.
    """
    numbers = [(1,)]
    for size in range(len(table)):
        row, column = table[size][:size], [line[size] for line in table[:size]]
        steps = [(1,), scale(prime, table[size][size], prime - 1)]
        for _ in range(size):
            steps.append(scale(prime, sum_of_products(prime, row, column), prime - 1))
            column = [sum_of_products(prime, line[:size], column) for line in table[:size]]
        numbers = [sum_of_products(prime, steps[:place + 1][::-1], numbers) for place in range(size + 2)]
    return numbers


def sum_of_products(prime, ones, others):
    """The sum of the products of polynomials in pairs."""
    total = ()
    for one, other in zip(ones, others):
        if one and other:
            total = add_scaled(prime, total, multiply(prime, one, other), 1)
    return total


def short_rows(prime, tops, bottom):
    """Short rows of polynomials that make the same sums of multiples by functions as an echelon, tops over a bottom.

    The rows of an echelon can be far longer. All rows of polynomials among these sums are sums of multiples of the
    short ones by polynomials. They are sums of such multiples of the rows of the echelon, too, as these have 1 and 0 at
    their leads; the bottom has to cancel out.
    """
    factors = [[(1,) if place == row else () for place in range(len(tops))] for row in range(len(tops))]
    columns = list(zip(*tops))
    for column in columns:
        if any([rest_of(prime, top, bottom) for top in column]):
            factors = reduced_rows(prime, divisible_rows(prime, factors, column, bottom))
    rows = [[quotient_of(prime, sum_of_products(prime, row, told), bottom) for told in columns] for row in factors]
    return reduced_rows(prime, rows)


def divisible_rows(prime, factors, column, bottom):
    """Rows of factors of which all others are sums with a product with a column that the bottom divides.

    The rests of the products and the bottom itself are divided by each other until only one is not 0.
    """
    rests = [rest_of(prime, sum_of_products(prime, row, column), bottom) for row in factors]
    rests.append(bottom)
    rows = [list(row) for row in factors]
    rows.append([() for _ in column])
    sizes = sorted([(len(rest), place) for place, rest in enumerate(rests) if rest])
    while len(sizes) > 1:
        least = sizes[0][1]
        for _, place in sizes[1:]:
            quotient, rests[place] = divide(prime, rests[place], rests[least])
            rows[place] = less_multiple(prime, rows[place], rows[least], quotient)
        sizes = sorted([(len(rest), place) for place, rest in enumerate(rests) if rest])
    return rows[:sizes[0][1]] + rows[sizes[0][1] + 1:]


def less_multiple(prime, row, other, factor):
    """A row less the multiple of another one by a polynomial."""
    return [add_scaled(prime, entry, multiply(prime, factor, further), -1) for entry, further in zip(row, other)]


def reduced_rows(prime, rows):
    """Independent rows of polynomials, less multiples of each other until the last longest entries stand apart.

    Then no sum of multiples is shorter than the rows that it is made of.
    """
    found = [list(row) for row in rows]
    pair = pair_to_reduce(found)
    while pair is not None:
        high, low, column = pair
        shift = len(found[high][column]) - len(found[low][column])
        factor = quotient_of(prime, found[high][column][-1:], found[low][column][-1:])
        found[high] = less_multiple(prime, found[high], found[low], (0,) * shift + factor)
        pair = pair_to_reduce(found)
    return found


def pair_to_reduce(rows):
    """The triple of a row, of another one that is not longer, and of the column of the last longest entries of both."""
    found = {}
    for place, row in enumerate(rows):
        sizes = [len(entry) for entry in row]
        size = max(sizes)
        column = max([index for index, further in enumerate(sizes) if further == size])
        if column in found:
            other, other_size = found[column]
            return (place, other, column) if size >= other_size else (other, place, column)
        found[column] = (place, size)
    return None
