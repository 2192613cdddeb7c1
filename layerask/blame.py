"""The blame for a false claim that is believed (point 10.4)."""

from layerask.answering import honest_talk
from layerask.asking import BELIEVED, judge
from layerask.circuits import modulus, rows_table
from layerask.cubes import value_at
from layerask.polys import value


def agrees(sent, honest, number, p):
    """Whether two polynomials of as many values differ, but not at the throw."""
    return sent != honest and value(sent, number, p) == value(honest, number, p)


def agreements(sent, honest, throws, p):
    """The places at which what was sent agrees with what is honest by the throws, in their order."""
    places = []
    thrown = 0
    for layer, (polys, line) in enumerate(sent):
        honest_polys, honest_line = honest[layer]
        for at, poly in enumerate(polys):
            if agrees(poly, honest_polys[at], throws[thrown + at], p):
                places.append(("round", layer, at))
        thrown += len(polys)
        if agrees(line, honest_line, throws[thrown], p):
            places.append(("line", layer))
        thrown += 1
    return places


def place_of(claimed, true, sent, honest, throws, p):
    """The first place where two different things agree by the throw, for tables of outputs and answers to all layers.

    It is None if both tables are the same, or if there is no such place. By
    point 0.8 there is one for tables that differ, if the claimed one was believed.
    """
    if claimed == true:
        return None
    # The first point has a number for each dimension of the table.
    first = len(claimed).bit_length() - 1
    if value_at(claimed, throws[:first], p) == value_at(true, throws[:first], p):
        return ("outputs",)
    places = agreements(sent, honest, throws[first:], p)
    return places[0] if len(places) > 0 else None


def blame(circuit, rows, outputs, throws, answers):
    """The blame, or None if the claimed outputs are right or not believed."""
    if judge(circuit, rows, outputs, throws, answers) != BELIEVED:
        return None
    true, honest = honest_talk(circuit, rows, throws)
    return place_of(rows_table(outputs), true, answers, honest, throws, modulus(circuit))
