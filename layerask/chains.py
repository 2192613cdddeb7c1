"""Chains of circuits, in which the outputs of one are the inputs of the next one (point 21)."""

from layerask.answering import Answerer, answers_from
from layerask.asking import BELIEVED, Questions, check_answers, check_talk, check_throws, play
from layerask.blame import place_of
from layerask.circuits import checked, checked_rows, depth, layer_tables, modulus, output_rows
from layerask.circuits import row_bits, rows_table, width
from layerask.counts import first_throws, most_believed, plan, share, told_work
from layerask.errors import CircuitError, SizeError, TalkError

MOST_LINKS = 64


def checked_chain(circuits):
    """The list itself; raises the errors of point 21.2."""
    if not isinstance(circuits, list) or len(circuits) == 0:
        raise CircuitError("chain")
    if len(circuits) > MOST_LINKS:
        raise SizeError("links")
    for circuit in circuits:
        checked(circuit)
    for circuit, following in zip(circuits, circuits[1:]):
        if modulus(circuit) != modulus(following) or width(circuit, 0) != width(following, depth(following)):
            raise CircuitError("chain")
    return circuits


def next_state(circuit, rows):
    """The rows of outputs of a link for rows of inputs that are not checked."""
    return output_rows(circuit, layer_tables(circuit, rows)[0], row_bits(rows))


def run_chain(circuits, rows):
    """The states of a chain."""
    checked_chain(circuits)
    checked_rows(circuits[0], rows)
    states = [[list(row) for row in rows]]
    for circuit in circuits:
        states.append(next_state(circuit, states[-1]))
    return states


def joined(circuits):
    """The one circuit whose layers are those of the links, the last link first; it may be too large to be checked."""
    widths = []
    layers = []
    for circuit in reversed(circuits):
        _, _, link_widths, link_layers = circuit
        # The last layer of a link is layer 0 of the link before.
        widths += link_widths[:-1]
        layers += [list(gates) for gates in link_layers]
    return ("circuit", modulus(circuits[0]), widths + circuits[0][2][-1:], layers)


def chain_plan(circuits, dims):
    """The degrees of all answers of a conversation, in their order."""
    return plan(joined(circuits), dims)


def chain_throws(circuits, dims):
    """The number of the throws."""
    return first_throws(circuits[-1], dims) + len(chain_plan(circuits, dims))


def chain_share(circuits, dims):
    """The told share times p."""
    return share(joined(circuits), dims)


def chain_most(circuits, dims):
    """The most rows of throws with which a false claim is believed, as far as is told."""
    return most_believed(joined(circuits), dims)


def chain_work(circuits, dims):
    """The asker's work in a conversation that is believed."""
    return told_work(joined(circuits), dims)


def in_links(depths, place):
    """A place of the joined circuit, with the link and its layer instead of the layer."""
    if place is None or len(place) == 1:
        return place
    link = len(depths) - 1
    layer = place[1]
    # Only the inputs of link 0 are no layer of the link that follows.
    while link > 0 and layer >= depths[link]:
        layer -= depths[link]
        link -= 1
    return (place[0], link, layer) + place[2:]


def depths_of(circuits):
    """The numbers of layers of the links."""
    return [depth(circuit) for circuit in circuits]


class ChainAsker:
    """The asker of the claim that a chain has a certain last state."""

    def __init__(self, circuits, rows, outputs):
        checked_chain(circuits)
        whole = joined(circuits)
        check_talk(whole, rows, outputs)
        self._depths = depths_of(circuits)
        self._questions = Questions(whole, row_bits(rows), rows_table(rows), rows_table(outputs))
        self.result = None
        self.work = 0
        self._look()

    def wants(self):
        """What comes next: "throw", "polynomial", "line" or "nothing"."""
        return self._questions.wants()

    def throw(self, number):
        """Takes a throw."""
        self._questions.throw(number)
        self._look()

    def answer(self, values):
        """Takes an answer; tells whether it fits."""
        fits = self._questions.answer(values)
        self._look()
        return fits

    def _look(self):
        """Takes over how far the questions are."""
        self.result = in_links(self._depths, self._questions.result)
        self.work = self._questions.work


def told_by_links(circuits, states, throws):
    """The honest answers to each link, the last link first, for the states of a chain."""
    dims = row_bits(states[0])
    at = first_throws(circuits[-1], dims)
    point = throws[:at]
    told = []
    for link in range(len(circuits) - 1, -1, -1):
        many = len(plan(circuits[link], dims))
        answerer = Answerer(circuits[link], states[link])
        of_link, point = answers_from(answerer, point, throws[at:at + many])
        told.append(of_link)
        at += many
    return told


def chain_answers(circuits, rows, throws):
    """The honest answers to each link, the last link first."""
    return told_by_links(circuits, run_chain(circuits, rows), throws)


def layers_of(answers):
    """The answers to the layers of all links, one behind the other."""
    return [pair for of_link in answers for pair in of_link]


def check_links(circuits, dims, answers):
    """Raises TalkError if there are not as many answers as a conversation about a chain has."""
    if len(answers) != len(circuits):
        raise TalkError("answers")
    for circuit, of_link in zip(circuits[::-1], answers):
        check_answers(circuit, dims, of_link)


def judge_chain(circuits, rows, outputs, throws, answers):
    """The result of a whole conversation about a chain."""
    asker = ChainAsker(circuits, rows, outputs)
    check_throws(joined(circuits), row_bits(rows), throws)
    check_links(circuits, row_bits(rows), answers)
    return play(asker, throws, layers_of(answers))


def blame_chain(circuits, rows, outputs, throws, answers):
    """The blame, or None if the claimed last state is right or not believed."""
    if judge_chain(circuits, rows, outputs, throws, answers) != BELIEVED:
        return None
    states = run_chain(circuits, rows)
    honest = layers_of(told_by_links(circuits, states, throws))
    true = rows_table(states[-1])
    place = place_of(rows_table(outputs), true, layers_of(answers), honest, throws, modulus(circuits[0]))
    return in_links(depths_of(circuits), place)
