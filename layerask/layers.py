"""From a graph to a circuit (point 18)."""

from layerask.circuits import MOST_BITS, MOST_GATES, MOST_LAYERS, depth, width
from layerask.errors import SizeError
from layerask.graphs import build, operands, renamed

NO_GATE = ("lin", 0, 0, 0, 0)


def levels(graph):
    """The levels of the nodes."""
    _, _, _, nodes, _ = graph
    found = []
    for node in nodes:
        found.append(max([found[at] + 1 for at in operands(node)], default=0))
    return found


def read_nodes(node, at, is_top):
    """The nodes that the column of a node reads: at the top of its layer its operands, otherwise itself."""
    return operands(node) if is_top else [at]


def layer_nodes(graph, heights, last):
    """The nodes that are the columns of the layers 0 to the last one."""
    _, _, many, nodes, outputs = graph
    columns = [list(outputs)]
    for layer in range(last - 1):
        reads = []
        for at in columns[layer]:
            reads.extend(read_nodes(nodes[at], at, heights[at] == last - layer))
        columns.append(sorted(set(reads)))
    columns.append(list(range(many + 1)))
    return columns


def bits_for(many):
    """The smallest w for which 2^w columns are enough."""
    return (many - 1).bit_length()


def check_widths(widths):
    """Raises SizeError if the columns are more than a circuit may have."""
    if max(widths) > MOST_BITS:
        raise SizeError("columns")
    if sum([1 << bits for bits in widths[:-1]]) > MOST_GATES:
        raise SizeError("gates")


def layer_gates(nodes, heights, columns, following, level):
    """The gates of the columns of a layer over those of the next one; its nodes have at most this level."""
    places = {at: place for place, at in enumerate(following)}
    gates = []
    for at in columns:
        if heights[at] == level:
            gates.append(renamed(nodes[at], places))
        else:
            gates.append(("lin", 1, places[at], 0, places[at]))
    return gates + [NO_GATE] * ((1 << bits_for(len(gates))) - len(gates))


def circuit_of(graph):
    """The circuit of a graph."""
    _, p, _, nodes, outputs = graph
    heights = levels(graph)
    last = max([1] + [heights[at] for at in outputs])
    if last > MOST_LAYERS:
        raise SizeError("layers")
    columns = layer_nodes(graph, heights, last)
    widths = [bits_for(len(held)) for held in columns]
    check_widths(widths)
    layers = []
    for layer in range(last):
        layers.append(layer_gates(nodes, heights, columns[layer], columns[layer + 1], last - layer))
    return ("circuit", p, widths, layers)


def circuit_of_program(program):
    """The circuit of a valid program."""
    return circuit_of(build(program))


def input_columns(circuit, numbers):
    """The columns of the last layer for a row of inputs: 1, the inputs, and zeros."""
    columns = [1] + list(numbers)
    return columns + [0] * ((1 << width(circuit, depth(circuit))) - len(columns))
