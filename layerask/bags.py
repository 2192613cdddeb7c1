"""Rows in any order (point 24)."""

from layerask.field import power


def mark(row, s, p):
    """The mark of a row: its numbers times the powers of s, added up."""
    total = 0
    for number in reversed(row):
        total = (total * s + number) % p
    return total


def product(rows, s, t, p):
    """The product over all rows of t minus the mark."""
    found = 1
    for row in rows:
        found = found * (t - mark(row, s, p)) % p
    return found


def same_bag(rows, others, s, t, p):
    """Whether two lists are believed to hold the same rows."""
    return len(rows) == len(others) and product(rows, s, t, p) == product(others, s, t, p)


def among(rows, table, counts, s, t, p):
    """Whether a list is believed to consist of the rows of a table, each as often as it is counted."""
    if len(counts) != len(table) or sum(counts) != len(rows):
        return False
    found = 1
    for row, count in zip(table, counts):
        found = found * power(t - mark(row, s, p), count, p) % p
    return found == product(rows, s, t, p)


def in_order(rows):
    """Whether no row is greater than the next one."""
    for row, following in zip(rows, rows[1:]):
        if row > following:
            return False
    return True


def sorted_claim(rows, outputs, s, t, p):
    """Whether outputs are believed to be the rows in ascending order."""
    return in_order(outputs) and same_bag(rows, outputs, s, t, p)


def counted(rows):
    """How often each row is there."""
    found = {}
    for row in rows:
        key = tuple(row)
        found[key] = found.get(key, 0) + 1
    return found


def first_more(rows, others):
    """The first row that is there more often than among the others."""
    here = counted(rows)
    there = counted(others)
    for row in rows:
        if here[tuple(row)] > there.get(tuple(row), 0):
            return row
    return None


def first_double(row, others, s, p):
    """The first one of the others that differs from a row and has the same mark."""
    for other in others:
        if other != row and mark(other, s, p) == mark(row, s, p):
            return other
    return None


def bag_blame(rows, others, s, t, p):
    """The blame, or None if the lists hold the same rows or are not believed to."""
    if not same_bag(rows, others, s, t, p) or sorted(rows) == sorted(others):
        return None
    if sorted([mark(row, s, p) for row in rows]) != sorted([mark(row, s, p) for row in others]):
        return ("point", t)
    row = first_more(rows, others)
    return ("rows", list(row), list(first_double(row, others, s, p)))


def most_same(many, width, p):
    """The most pairs of throws with which a false claim is believed, as far as is told."""
    return min(p * p, p * many * width)
