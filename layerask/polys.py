"""Polynomials in one variable, told by their values at 0, 1, 2 and so on (point 3)."""

from layerask.field import inverse


def inverse_factorials(many, p):
    """The inverses of the factorials of 0 to many - 1; many is at most p."""
    factorial = 1
    for k in range(1, many):
        factorial = factorial * k % p
    found = [inverse(factorial, p)]
    for k in range(many - 1, 0, -1):
        found.append(found[-1] * k % p)
    return found[::-1]


def value(values, t, p):
    """The value of a polynomial at t."""
    # Lagrange's formula; the products over the other places are built from
    # both ends, so that only one number needs an inverse.
    last = len(values) - 1
    parts = inverse_factorials(len(values), p)
    below = [1]
    for k in range(last):
        below.append(below[k] * (t - k) % p)
    above = 1
    total = 0
    for k in range(last, -1, -1):
        term = values[k] * below[k] % p * above % p * parts[k] % p * parts[last - k] % p
        total = total + (term if (last - k) % 2 == 0 else p - term)
        above = above * (t - k) % p
    return total % p


def corners(values, p):
    """The sum of the values of a polynomial at 0 and 1."""
    if len(values) == 1:
        return 2 * values[0] % p
    return (values[0] + values[1]) % p


def differences(values, p):
    """The value at 0, the first difference there, the second one, and so on, up to the last one that is not 0."""
    # These are the coefficients over the binomials "t over k", and so they tell
    # a polynomial in only one way, however many values were given.
    row = values
    found = []
    while row:
        found.append(row[0] % p)
        row = [(right - left) % p for left, right in zip(row, row[1:])]
    while found and found[-1] == 0:
        found.pop()
    return found


def same(values, others, p):
    """Whether two lists tell the same polynomial."""
    return differences(values, p) == differences(others, p)


def degree(values, p):
    """The degree of a polynomial, and -1 if it is 0 everywhere."""
    return len(differences(values, p)) - 1


def common(values, others, p):
    """The numbers at which two polynomials have the same value, in ascending order."""
    many = max(len(values), len(others))
    gaps = [value(values, t, p) - value(others, t, p) for t in range(many)]
    steps = differences(gaps, p)
    if not steps:
        return list(range(p))
    found = []
    for t in range(p):
        if steps[0] == 0:
            found.append(t)
        steps = [(here + up) % p for here, up in zip(steps, steps[1:] + [0])]
    return found
