"""The weights of a layer, which tell how its gates are wired (point 7)."""

from layerask.cubes import point_table


def weights_by(gates, near_g, near_x, near_y, p):
    """The weights of x, of y and of both, for tables of nearness."""
    of_x = 0
    of_y = 0
    of_both = 0
    for near, gate in zip(near_g, gates):
        if gate[0] == "lin":
            _, a, x, b, y = gate
            closeness = near * near_x[x] % p * near_y[y] % p
            of_x = (of_x + a * closeness) % p
            of_y = (of_y + b * closeness) % p
        else:
            _, c, x, y = gate
            of_both = (of_both + c * near * near_x[x] % p * near_y[y]) % p
    return of_x, of_y, of_both


def weights(gates, g, x, y, p):
    """The weights of x, of y and of both at three points."""
    return weights_by(gates, point_table(g, p), point_table(x, p), point_table(y, p), p)
