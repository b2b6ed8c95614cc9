"""Bounds: the least kind above several kinds, and the greatest one below them."""

from coilkind.least import least_unfolded, put_together
from coilkind.roads import FROM, Net


def joined(T, x, S, y):
    """The least kind within which two kinds lie."""
    return bound(1, [beginning_at(T, x), beginning_at(S, y)])


def met(T, x, S, y):
    """The greatest kind that lies within two kinds."""
    return bound(-1, [beginning_at(T, x), beginning_at(S, y)])


def bound(side, kinds):
    """What kinds, told by tellings alone, are joined, where side is 1, or met, where it is -1."""
    # Laid into one telling, rows that are alike are one row, and far fewer of them stand together.
    net = Net(put_together("box", [(str(k), T) for k, T in enumerate(kinds)]))
    first = net.moves[net.rows["ka"]]
    return bound_of_rows(net, side, in_order(list(first.values())), {row: (row,) for row in net.heads})


def bound_of_rows(net, side, rows, meant):
    """What rows of a net, a tuple in order, are joined or met; meant tells of each row, in such a tuple, those that are
    joined or met in its place."""
    return least_unfolded((side, rows), lambda key: unfolded(net, meant, key))


def unfolded(net, meant, key):
    """The sort of what the rows of a key (side, rows) are joined or met, and by its steps the keys behind it."""
    side, rows = key
    widest, narrowest = ("all", "none") if side == 1 else ("none", "all")
    # Beside what is narrowest the others stay as they are; what is widest is of another sort, or has no steps.
    left = [row for row in rows if net.heads[row][0] != narrowest]
    sorts = sorted({net.heads[row][0] for row in left})
    if len(sorts) == 0:
        return (narrowest, {})
    if len(sorts) > 1:
        return (widest, {})
    moves = {}
    for step in steps_together(net, side, sorts[0], left):
        ends = [net.moves[row][step] for row in left if step in net.moves[row]]
        moves[step] = (-side if step == FROM else side, in_order([row for end in ends for row in meant[end]]))
    return (sorts[0], moves)


def steps_together(net, side, sort, rows):
    """The steps of what rows of one sort are joined or met."""
    steps = sorted({step for row in rows for step in net.moves[row]})
    # A box is the wider the fewer words it has, a pick the more it has.
    if sort == ("box" if side == 1 else "pick"):
        return [step for step in steps if all([step in net.moves[row] for row in rows])]
    return steps


def in_order(rows):
    """Rows in one order, each once, so that they make one key however they came."""
    return tuple(sorted(set(rows)))


def beginning_at(T, x):
    """A telling with another row as its first one, and so by itself one of that kind."""
    return tuple([row for row in T if row[0] == x] + [row for row in T if row[0] != x])
