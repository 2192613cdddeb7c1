"""What the conversation about a large expression asks of each node (point 27.7)."""

from layerask.cubes import nearness, point_table, with_first, with_last
from layerask.largenodes import operands

# The degree of the rounds of a node, if it has some.
DEGREES = {"sum": 1, "times": 3, "dot": 2, "mm": 2, "mv": 2, "transform": 2, "product": 3}

# How many values are sent behind the rounds of a node.
VALUES = {"add": 2, "sub": 2, "scale": 2, "outer": 2, "times": 2, "dot": 2, "mm": 2, "mv": 2, "transform": 1,
          "product": 2}


def degree_of(word):
    """The degree of the rounds of a node."""
    return DEGREES.get(word, 0)


def values_of(word):
    """How many values are sent behind the rounds of a node."""
    return VALUES.get(word, 0)


def shapes_of(plan, at):
    """The shapes of the operands of a node."""
    return [plan[3][operand] for operand in operands(plan[2][at])]


def stages_of(plan, at):
    """The numbers of the rounds of a node, stage by stage; a node that is only compared has no stage."""
    word = plan[2][at][0]
    shapes = shapes_of(plan, at)
    if word == "input" or word == "number":
        return []
    if word == "product":
        return list(range(shapes[0][0]))
    if word == "mm" or word == "mv":
        return [shapes[0][1]]
    return [sum(shapes[0])] if word in DEGREES else [0]


def operand_points(plan, at, point, thrown):
    """The points of the claims about the operands of a node, except for "product"."""
    _, _, nodes, shapes, _ = plan
    word = nodes[at][0]
    if word == "add" or word == "sub":
        return [point, point]
    if word == "scale":
        return [[], point]
    if word == "transpose":
        rows = shapes[at][0]
        return [point[rows:] + point[:rows]]
    if word == "sum" or word == "transform":
        return [thrown]
    if word == "times" or word == "dot":
        return [thrown, thrown]
    rows = shapes_of(plan, at)[0][0]
    if word == "outer":
        return [point[:rows], point[rows:]]
    return [point[:rows] + thrown, thrown + point[rows:]]


def signs_at(point, thrown, p):
    """The product of all 1 - 2 times a number of the point times one of the throws."""
    found = 1
    for here, there in zip(point, thrown):
        found = found * (1 - 2 * here * there) % p
    return found


def signs_table(point, p):
    """The products of `signs_at` at all corners."""
    found = [1]
    for number in point:
        found = found + [entry * (1 - 2 * number) % p for entry in found]
    return found


def factor_at(word, point, thrown, p):
    """What the values behind the rounds are multiplied by."""
    if word == "times" or word == "product":
        return nearness(point, thrown, p)
    return signs_at(point, thrown, p) if word == "transform" else 1


def combined(word, values, p):
    """The values behind the rounds, put together; at least one is sent."""
    if word == "add":
        return (values[0] + values[1]) % p
    if word == "sub":
        return (values[0] - values[1]) % p
    found = 1
    for number in values:
        found = found * number % p
    return found


def terms_of(plan, at, tables, point):
    """The tables of which the sum of the rounds is made, except for "product"."""
    _, p, nodes, _, _ = plan
    word = nodes[at][0]
    held = [tables[operand] for operand in operands(nodes[at])]
    if word == "times":
        return [[point_table(point, p)] + held]
    if word == "transform":
        return [held + [signs_table(point, p)]]
    if word == "mm" or word == "mv":
        rows = shapes_of(plan, at)[0][0]
        return [[with_first(held[0], point[:rows], p), with_last(held[1], point[rows:], p)]]
    return [held]
