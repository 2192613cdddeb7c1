"""Circuits, and running them over rows (points 0.4, 0.5 and 6)."""

from layerask.errors import CircuitError, SizeError
from layerask.field import are_numbers, check_modulus, is_integer_kind

MOST_LAYERS = 64
MOST_BITS = 8
MOST_GATES = 4096
MOST_ROWS = 1024


def modulus(circuit):
    """The modulus of a circuit."""
    return circuit[1]


def depth(circuit):
    """The number of layers with gates."""
    return len(circuit[3])


def width(circuit, layer):
    """The number of bits of the columns of a layer."""
    return circuit[2][layer]


def gates_of(circuit, layer):
    """A list of the gates of a layer other than the last one."""
    return list(circuit[3][layer])


def copied_layer(circuit, layer):
    """What tells a layer other than the last one, sharing no list with the circuit."""
    told = circuit[3][layer]
    # A layer of a regular circuit is told by a rule, which is a tuple.
    return list(told) if isinstance(told, list) else told


def copied(circuit):
    """An equal circuit, regular or not, that shares no list with the given one."""
    word, p, widths, layers = circuit
    return (word, p, list(widths), [copied_layer(circuit, layer) for layer in range(len(layers))])


def has_form(circuit):
    """Whether a thing of any kind looks like a circuit from afar."""
    if not isinstance(circuit, tuple) or len(circuit) != 4 or circuit[0] != "circuit":
        return False
    _, p, widths, layers = circuit
    if not is_integer_kind(p) or not isinstance(widths, list) or not isinstance(layers, list):
        return False
    if not layers or len(widths) != len(layers) + 1:
        return False
    return all(is_integer_kind(bits) and bits >= 0 for bits in widths)


def check_limits(widths):
    """Raises SizeError if widths are more or greater than they may be."""
    if len(widths) - 1 > MOST_LAYERS:
        raise SizeError("layers")
    if max(widths) > MOST_BITS:
        raise SizeError("columns")
    if sum(1 << bits for bits in widths[:-1]) > MOST_GATES:
        raise SizeError("gates")


def is_gate(thing, columns, p):
    """Whether a thing of any kind is a gate over so many columns."""
    if not isinstance(thing, tuple):
        return False
    if len(thing) == 5 and thing[0] == "lin":
        _, a, x, b, y = thing
        return are_numbers([a, b], 2, p) and are_numbers([x, y], 2, columns)
    if len(thing) == 4 and thing[0] == "mul":
        _, c, x, y = thing
        return are_numbers([c], 1, p) and are_numbers([x, y], 2, columns)
    return False


def check_layer(gates, many, columns, p):
    """Raises CircuitError if a thing of any kind is no list of so many gates over so many columns."""
    if not isinstance(gates, list) or len(gates) != many:
        raise CircuitError("layer")
    for gate in gates:
        if not is_gate(gate, columns, p):
            raise CircuitError("gate")


def checked(circuit):
    """The circuit itself; raises the errors of point 6.2."""
    if not has_form(circuit):
        raise CircuitError("circuit")
    _, p, widths, layers = circuit
    check_modulus(p)
    check_limits(widths)
    for at, gates in enumerate(layers):
        check_layer(gates, 1 << widths[at], 1 << widths[at + 1], p)
    return circuit


def checked_rows(circuit, rows):
    """The rows themselves; raises the errors of point 6.3."""
    if not isinstance(rows, list) or len(rows) == 0 or len(rows) & (len(rows) - 1) != 0:
        raise CircuitError("rows")
    if len(rows) > MOST_ROWS:
        raise SizeError("rows")
    columns = 1 << width(circuit, depth(circuit))
    for row in rows:
        if not are_numbers(row, columns, modulus(circuit)):
            raise CircuitError("row")
    return rows


def row_bits(rows):
    """The n of 2^n rows."""
    return len(rows).bit_length() - 1


def gate_values(gate, columns, p):
    """The values of a gate in all rows; a column is the list of its values in all rows."""
    if gate[0] == "lin":
        _, a, x, b, y = gate
        return [(a * left + b * right) % p for left, right in zip(columns[x], columns[y])]
    _, c, x, y = gate
    return [c * left * right % p for left, right in zip(columns[x], columns[y])]


def table_of(columns):
    """The table of a layer with these columns."""
    return [entry for column in columns for entry in column]


def columns_of(rows):
    """The columns of a list of rows."""
    return [[row[at] for row in rows] for at in range(len(rows[0]))]


def layer_tables(circuit, rows):
    """The tables of the layers 0 to L for rows that are not checked."""
    columns = columns_of(rows)
    tables = [table_of(columns)]
    for gates in reversed(circuit[3]):
        columns = [gate_values(gate, columns, modulus(circuit)) for gate in gates]
        tables.append(table_of(columns))
    return tables[::-1]


def run_row(circuit, inputs):
    """The columns of the layers 0 to L for one row of inputs."""
    # With one row, the table of a layer is the list of its columns.
    return layer_tables(circuit, [inputs])


def run(circuit, rows):
    """The tables of the layers 0 to L; raises the errors of points 6.2 and 6.3."""
    checked(circuit)
    checked_rows(circuit, rows)
    return layer_tables(circuit, rows)


def rows_table(rows):
    """The table of a layer that has these rows."""
    return table_of(columns_of(rows))


def input_table(circuit, rows):
    """The table of the last layer."""
    return rows_table(rows)


def output_rows(circuit, table, bits):
    """The outputs of the 2^bits rows, from the table of layer 0."""
    many = 1 << bits
    columns = 1 << width(circuit, 0)
    return [[table[at + many * column] for column in range(columns)] for at in range(many)]
