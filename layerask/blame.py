"""The blame for a false claim that is believed (point 10.4)."""

from layerask.answering import honest_talk
from layerask.asking import judge
from layerask.circuits import modulus, row_bits, rows_table
from layerask.counts import first_throws
from layerask.cubes import value_at
from layerask.polys import value


def agrees(sent, honest, number, p):
    """Whether two polynomials of as many values differ, but not at the throw."""
    return sent != honest and value(sent, number, p) == value(honest, number, p)


def agreements(sent, honest, throws, p):
    """The places at which what was sent agrees with what is honest by the throws, in their order."""
    places = []
    thrown = 0
    for layer, (polys, line) in enumerate(sent):
        honest_polys, honest_line = honest[layer]
        for at, poly in enumerate(polys):
            if agrees(poly, honest_polys[at], throws[thrown + at], p):
                places.append(("round", layer, at))
        thrown += len(polys)
        if agrees(line, honest_line, throws[thrown], p):
            places.append(("line", layer))
        thrown += 1
    return places


def blame(circuit, rows, outputs, throws, answers):
    """The blame, or None if the claimed outputs are right or not believed."""
    if judge(circuit, rows, outputs, throws, answers) != ("believed",):
        return None
    p = modulus(circuit)
    true_table, honest = honest_talk(circuit, rows, throws)
    claimed_table = rows_table(outputs)
    if claimed_table == true_table:
        return None
    first = first_throws(circuit, row_bits(rows))
    point = throws[:first]
    if value_at(claimed_table, point, p) == value_at(true_table, point, p):
        return ("outputs",)
    # By point 0.8 there is always a place.
    return agreements(answers, honest, throws[first:], p)[0]
