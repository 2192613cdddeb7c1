"""What a conversation takes, told before it (point 11)."""

from layerask.circuits import depth, modulus, width


def first_throws(circuit, dims):
    """The number of the throws for the first point."""
    return dims + width(circuit, 0)


def plan(circuit, dims):
    """The degrees of all answers of a conversation, in their order."""
    degrees = []
    for layer in range(depth(circuit)):
        bits = width(circuit, layer + 1)
        degrees += [3] * dims + [2] * (2 * bits) + [bits]
    return degrees


def many_throws(circuit, dims):
    """The number of the throws, for files in which "throws" is a list of them."""
    return first_throws(circuit, dims) + len(plan(circuit, dims))


def throws(circuit, dims):
    """The number of the throws."""
    return many_throws(circuit, dims)


def share(circuit, dims):
    """The told share times p."""
    return first_throws(circuit, dims) + sum(plan(circuit, dims))


def whole_power(base, exponent):
    """The power of an integer, by squares; the numbers of long chains have many thousand digits."""
    result = 1
    square = base
    left = exponent
    while left > 0:
        if left & 1:
            result = result * square
        left = left >> 1
        if left > 0:
            square = square * square
    return result


def most_believed(circuit, dims):
    """The most rows of throws with which a false claim is believed, as far as is told."""
    p = modulus(circuit)
    return min(p, share(circuit, dims)) * whole_power(p, throws(circuit, dims) - 1)


def told_work(circuit, dims):
    """The asker's work in a conversation that is believed."""
    last = depth(circuit)
    tables = (1 << (dims + width(circuit, 0))) + (1 << (dims + width(circuit, last)))
    answered = sum(degree + 1 for degree in plan(circuit, dims))
    return tables + answered + sum(1 << width(circuit, layer) for layer in range(last))
