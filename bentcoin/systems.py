"""The linear equations of a machine's tables, solved for every p at once."""

from bentcoin.polynomials import add_polynomials, divide_exactly, multiply_polynomials
from bentcoin.polynomials import subtract_polynomials
from bentcoin.rationals import reduce_rational

HEADS = (0, 1)
TAILS = (1, -1)


def solve_tables(machine, dues_list, gain):
    """Return a table for each list of dues: at each state the due, or a solved value where it is None.

    That is the gain, a polynomial, plus the mean of both successors' values. The lists are None
    at the same states, and from each of these some state that is due is reachable. Dues are 0 or 1.
    """
    unknown = [index for index, due in enumerate(dues_list[0]) if due is None]
    rows = eliminate_all([make_row(machine, index, unknown, dues_list, gain) for index in unknown])
    tables = []
    for at, dues in enumerate(dues_list):
        table = list(dues)
        for k, index in enumerate(unknown):
            table[index] = reduce_rational(rows[k][len(unknown) + at], rows[k][k])
        tables.append(tuple(table))
    return tables


def make_row(machine, index, unknown, dues_list, gain):
    """Return the equation of a toss state: factors of the unknown values, then the right sides."""
    _, heads, tails = machine[index]
    row = [(1,) if other == index else () for other in unknown]
    sides = [gain for _ in dues_list]
    for successor, weight in ((heads, HEADS), (tails, TAILS)):
        if successor in unknown:
            at = unknown.index(successor)
            row[at] = subtract_polynomials(row[at], weight)
        else:
            for at, dues in enumerate(dues_list):
                sides[at] = add_polynomials(sides[at], multiply_polynomials(weight, dues[successor][0]))
    return row + sides


def eliminate_all(rows):
    """Return the rows with one factor left each, which is the same determinant in all of them.

    No row is exchanged: no pivot is (). It is the determinant for the first states alone, where
    all others stop a run, and a run stops with certainty then, at each interior p.
    """
    before = (1,)
    size = len(rows)
    for k in range(size):
        pivot = rows[k]
        rows = [row if at == k else eliminate_one(row, pivot, k, before) for at, row in enumerate(rows)]
        before = pivot[k]
    return rows


def eliminate_one(row, pivot, k, before):
    """Return the row without its factor at k; before is the last pivot's factor, which divides it."""
    changed = []
    for own, other in zip(row, pivot):
        left = multiply_polynomials(pivot[k], own)
        right = multiply_polynomials(row[k], other)
        changed.append(divide_exactly(subtract_polynomials(left, right), before))
    return changed
