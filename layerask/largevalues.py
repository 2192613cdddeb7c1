"""The values of large expressions (point 27.5)."""

from layerask.largenodes import operands
from layerask.matrices import multiplied, multiply, transpose


def transformed(table, p):
    """The sums of the entries with their signs."""
    found = list(table)
    bit = 1
    while bit < len(found):
        # The entry itself counts with its sign where the index has the bit, and the other one always as it is.
        found = [(found[at ^ bit] + (-found[at] if at & bit else found[at])) % p for at in range(len(found))]
        bit = bit * 2
    return found


def paired(word, x, y, p):
    """The values of an operation that is calculated entry by entry; of "scale", x has one entry."""
    if word == "scale":
        return [x[0] * entry % p for entry in y]
    if word == "add":
        return [(entry + other) % p for entry, other in zip(x, y)]
    if word == "sub":
        return [(entry - other) % p for entry, other in zip(x, y)]
    return [entry * other % p for entry, other in zip(x, y)]


def product_sizes(word, shapes):
    """The sizes of a product of matrices; a vector is a matrix with one row or one column."""
    if word == "dot":
        return (0, shapes[0][0], 0)
    if word == "mv":
        return (shapes[0][0], shapes[0][1], 0)
    return (shapes[0][0], shapes[0][1], shapes[1][1])


def operation_table(word, tables, shapes, p):
    """The table of an operation, from those of its operands and their shapes."""
    x = tables[0]
    if word == "sum":
        return [sum(x) % p]
    if word == "product":
        return [multiplied(x, p)]
    if word == "transpose":
        return transpose(x, shapes[0][0], shapes[0][1])
    if word == "transform":
        return transformed(x, p)
    if word == "dot" or word == "mm" or word == "mv":
        return multiply(x, tables[1], product_sizes(word, shapes), p)
    if word == "outer":
        return [entry * other % p for other in tables[1] for entry in x]
    return paired(word, x, tables[1], p)


def tables_of(plan, inputs):
    """The tables of all nodes, for those of the inputs."""
    _, p, nodes, shapes, _ = plan
    found = []
    for node in nodes:
        if node[0] == "input":
            found.append(list(inputs[node[1]]))
        elif node[0] == "number":
            found.append([node[1]])
        else:
            tables = [found[at] for at in operands(node)]
            found.append(operation_table(node[0], tables, [shapes[at] for at in operands(node)], p))
    return found


def result_of(plan, inputs):
    """The table of the last node."""
    return tables_of(plan, inputs)[plan[4]]
