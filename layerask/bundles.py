"""Several circuits over the same inputs (points 22.3 to 22.7)."""

from layerask.answering import Answerer, answers_from
from layerask.asking import BELIEVED, CLAIMED, Questions, check_answers, check_outputs, check_talk_modulus, play
from layerask.blame import place_of
from layerask.circuits import checked, checked_rows, depth, layer_tables, modulus, output_rows
from layerask.circuits import row_bits, rows_table, width
from layerask.counts import first_throws, many_throws, share
from layerask.cubes import value_at
from layerask.errors import CircuitError, TalkError
from layerask.joining import JoinAnswerer, join_answers
from layerask.tapes import Tape, asked_join, check_dice, check_joining, first_agreement, has_parts, joining_answers


def last_width(circuit):
    """The number of bits of the columns of the last layer."""
    return width(circuit, depth(circuit))


def checked_bundle(circuits, rows):
    """The number of dimensions of the input table; raises the errors of a bundle."""
    if not isinstance(circuits, list) or len(circuits) == 0:
        raise CircuitError("bundle")
    for circuit in circuits:
        checked(circuit)
        check_talk_modulus(circuit)
    first = circuits[0]
    for circuit in circuits:
        if modulus(circuit) != modulus(first) or last_width(circuit) != last_width(first):
            raise CircuitError("inputs")
    checked_rows(first, rows)
    return row_bits(rows) + last_width(first)


def bundle_throws(circuits, bits):
    """The number of the throws for 2^bits rows."""
    of_circuits = sum([many_throws(circuit, bits) for circuit in circuits])
    return of_circuits + 1 + bits + last_width(circuits[0])


def bundle_share(circuits, bits):
    """The told share times p."""
    of_circuits = sum([share(circuit, bits) for circuit in circuits])
    return of_circuits + len(circuits) - 1 + 2 * (bits + last_width(circuits[0]))


def dice_parts(circuits, bits, throws):
    """The throws of each circuit, and behind them those of the joining."""
    parts = []
    at = 0
    for circuit in circuits:
        many = many_throws(circuit, bits)
        parts.append(throws[at:at + many])
        at += many
    return parts + [throws[at:]]


def check_told(circuits, bits, told, dims):
    """Raises TalkError if there are not as many answers as a conversation about a bundle has."""
    if not has_parts(told, 2) or not isinstance(told[0], list) or len(told[0]) != len(circuits):
        raise TalkError("answers")
    for circuit, of_circuit in zip(circuits, told[0]):
        check_answers(circuit, bits, of_circuit)
    check_joining(told[1], dims)


def check_bundle_talk(circuits, rows, outputs, throws, told):
    """Raises the errors of a conversation about a bundle."""
    dims = checked_bundle(circuits, rows)
    if not isinstance(outputs, list) or len(outputs) != len(circuits):
        raise CircuitError("outputs")
    for circuit, claimed in zip(circuits, outputs):
        check_outputs(circuit, rows, claimed)
    check_dice(throws, bundle_throws(circuits, row_bits(rows)), modulus(circuits[0]))
    check_told(circuits, row_bits(rows), told, dims)


def asked_circuits(tape, circuits, rows, outputs, parts, told):
    """The points and the claims about the inputs in which the circuits end; None if an answer does not fit."""
    points = []
    claims = []
    for at, circuit in enumerate(circuits):
        questions = Questions(circuit, row_bits(rows), None, rows_table(outputs[at]))
        result = play(questions, parts[at], told[at])
        if result != CLAIMED:
            tape.refuse((at,) + result[1:])
            return None
        points.append(questions.last_point)
        claims.append(questions.last_claim)
    return points, claims


def asked_bundle(circuits, rows, outputs, throws, told):
    """The tape of the joining, with the result of a whole conversation."""
    parts = dice_parts(circuits, row_bits(rows), throws)
    of_circuits, joining = told
    tape = Tape(modulus(circuits[0]), parts[-1], joining_answers(joining))
    ends = asked_circuits(tape, circuits, rows, outputs, parts, of_circuits)
    if ends is None:
        return tape
    points, claims = ends
    left = asked_join(tape, points, claims, ("join",), ())
    if left is not None:
        point, claim = left
        tape.compare(claim, value_at(rows_table(rows), point, tape.p), ("inputs",))
    tape.believe()
    return tape


def judge_bundle(circuits, rows, outputs, throws, told):
    """The result of a whole conversation about a bundle."""
    check_bundle_talk(circuits, rows, outputs, throws, told)
    return asked_bundle(circuits, rows, outputs, throws, told).result


def bundle_answers(circuits, rows, throws):
    """The honest answers."""
    answerers = [Answerer(circuit, rows) for circuit in circuits]
    parts = dice_parts(circuits, row_bits(rows), throws)
    told = []
    points = []
    for answerer, part in zip(answerers, parts):
        first = first_throws(answerer.circuit, answerer.bits)
        of_circuit, point = answers_from(answerer, part[:first], part[first:])
        told.append(of_circuit)
        points.append(point)
    joining = JoinAnswerer(answerers[0].p, rows_table(rows), points)
    return told, join_answers(joining, parts[-1])


def true_outputs(circuits, rows):
    """The rows of outputs that the circuits have."""
    bits = row_bits(rows)
    return [output_rows(circuit, layer_tables(circuit, rows)[0], bits) for circuit in circuits]


def bundle_blame(circuits, rows, outputs, throws, told):
    """The blame, or None if all outputs are right or they are not believed."""
    check_bundle_talk(circuits, rows, outputs, throws, told)
    tape = asked_bundle(circuits, rows, outputs, throws, told)
    true = true_outputs(circuits, rows)
    if tape.result != BELIEVED or outputs == true:
        return None
    honest = bundle_answers(circuits, rows, throws)
    parts = dice_parts(circuits, row_bits(rows), throws)
    for at, claimed in enumerate(outputs):
        place = place_of(rows_table(claimed), rows_table(true[at]), told[0][at], honest[0][at], parts[at], tape.p)
        if place is not None:
            return ("circuit", at, place)
    return first_agreement(tape.trace, asked_bundle(circuits, rows, true, throws, honest).trace)
