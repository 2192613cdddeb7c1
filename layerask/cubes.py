"""Tables over the corners of a cube, and their polynomials (points 0.3 and 4)."""


def fold(table, number, p):
    """The table in which the first variable is the number."""
    return [(low + number * (high - low)) % p for low, high in zip(table[::2], table[1::2])]


def fold_last(table, number, p):
    """The table in which the last variable is the number."""
    half = len(table) // 2
    return [(low + number * (high - low)) % p for low, high in zip(table[:half], table[half:])]


def with_first(table, point, p):
    """The table in which the first variables are the numbers of a point."""
    left = list(table)
    for number in point:
        left = fold(left, number, p)
    return left


def with_last(table, point, p):
    """The table in which the last variables are the numbers of a point."""
    left = list(table)
    for number in reversed(point):
        left = fold_last(left, number, p)
    return left


def value_at(table, point, p):
    """The value of a table at a point."""
    return with_first(table, point, p)[0]


def point_table(point, p):
    """The table of the nearness of all corners to a point."""
    table = [1]
    for number in point:
        without = [entry * (1 - number) % p for entry in table]
        table = without + [entry * number % p for entry in table]
    return table


def nearness(point, other, p):
    """The value of the table of one point at another one."""
    result = 1
    for here, there in zip(point, other):
        result = result * (here * there + (1 - here) * (1 - there)) % p
    return result


def between(point, other, t, p):
    """The point at t of the line from a point to another one."""
    return [(here + t * (there - here)) % p for here, there in zip(point, other)]


def line_values(table, point, other, p):
    """The values of a table with m dimensions at the points 0, 1, up to m of a line."""
    return [value_at(table, between(point, other, t, p), p) for t in range(len(point) + 1)]
