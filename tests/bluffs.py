"""Answers that keep a false claim alive, found by asking the judge, and counts over all throws."""

from itertools import product

from plain import Numbers, poly_value, table_value


def nothing_fits(answer):
    """An answer in the place of another one that never fits."""
    return -1 if isinstance(answer, int) else []


def candidates(honest, p, numbers):
    """Answers to try in place of an honest one; of polynomials one of them has the right values at 0 and 1."""
    if isinstance(honest, int):
        start = numbers.below(p)
        for step in range(p):
            yield (start + step) % p
    elif len(honest) == 1:
        for number in candidates(honest[0], p, numbers):
            yield [number]
    else:
        changed = [(entry + numbers.below(p)) % p for entry in honest]
        for number in range(p):
            yield changed[:1] + [number] + changed[2:]
        # Two values are perhaps no polynomial, and then the first one matters, too.
        for first in range(p):
            for second in range(p):
                yield [first, second] + changed[2:]


def bluffed(judge, honest, p, seed):
    """Answers, one behind the other, that fit as long as some of those that are tried do; `judge` judges such a list.

    With one seed, an answer depends only on the throws before it, as that of any answerer does.
    """
    numbers = Numbers(seed)
    told = list(honest)
    for k, answer in enumerate(honest):
        here = judge(told[:k] + [nothing_fits(answer)] + told[k + 1:])
        for candidate in candidates(answer, p, numbers):
            behind = told[k + 1:]
            if behind:
                behind[0] = nothing_fits(behind[0])
            if judge(told[:k] + [candidate] + behind) != here:
                told[k] = candidate
                break
        else:
            return told
    return told


def counted(test, p, many, share, talk, seeds=(1, 2, 3), step=1):
    """Goes over all rows of throws; `talk(throws, seed)` returns the result of a false claim and its blame.

    A claim that is believed must have a blame, and no other one; it may be
    believed at no more than the told share of all rows. With a step, only some
    rows are taken. Returns how often there was which blame.
    """
    found = {}
    for seed in seeds:
        believed, rows = 0, 0
        for at in range(0, p ** many, step):
            rows += 1
            throws = [at // p ** k % p for k in range(many)]
            result, place = talk(throws, seed)
            test.assertEqual(result == ("believed",), place is not None, (throws, result, place))
            test.assertEqual(result[0], "refused" if place is None else "believed")
            if place is not None:
                believed += 1
                found[place] = found.get(place, 0) + 1
        if step == 1:
            test.assertLessEqual(believed * p, rows * share)
    return found


def agreement(sent, honest, number, p):
    """Whether two polynomials differ, but not at a number."""
    return sent != honest and poly_value(sent, number, p) == poly_value(honest, number, p)


def mixed_value(numbers, mix, p):
    return sum(number * mix ** k for k, number in enumerate(numbers)) % p


def nearness(point, other, p):
    result = 1
    for here, there in zip(point, other):
        result = result * (here * there + (1 - here) * (1 - there)) % p
    return result


def mixed_near(points, mix, at, p):
    return mixed_value([nearness(point, at, p) for point in points], mix, p)


def plain_join(p, table, points, throws):
    """The honest answers, by sums over all corners."""
    mix, thrown = throws[0], throws[1:]
    polys = []
    for k in range(len(thrown)):
        values = []
        for t in range(3):
            total = 0
            for rest in product((0, 1), repeat=len(thrown) - k - 1):
                at = thrown[:k] + [t] + list(rest)
                total += table_value(table, at, p) * mixed_near(points, mix, at, p)
            values.append(total % p)
        polys.append(values)
    return polys, table_value(table, thrown, p)
