"""Cuts: kinds that are the same as another one up to a number of steps; and how many steps a kind has."""

from coilkind.alike import sources_of
from coilkind.least import least_unfolded
from coilkind.roads import FROM, Net, reached


def over(T, x, n):
    """The cut of a kind from above at n."""
    return cut(T, x, n, 1)


def under(T, x, n):
    """The cut of a kind from below at n."""
    return cut(T, x, n, -1)


def height(T, x):
    """The number of steps of the longest road that leads from a kind, or None where there is no longest."""
    net = Net(T)
    rows = list(reached(net, net.rows[x]))
    sources = sources_of(net, rows)
    # A row's height is known once that of all its ends is; of rows from which a road goes round it never is.
    unknown = {row: len(net.moves[row]) for row in rows}
    heights = {row: 0 for row in rows if unknown[row] == 0}
    waiting = list(heights)
    while waiting:
        end = waiting.pop()
        for step, row in sources[end]:
            unknown[row] -= 1
            if unknown[row] == 0:
                heights[row] = 1 + max([heights[behind] for behind in net.moves[row].values()])
                waiting.append(row)
    return heights.get(net.rows[x])


def cut(T, x, n, side):
    """The cut of a kind at n: side is 1 where all stands at the ends of side 1, else -1."""
    net = Net(T)
    return least_unfolded((side, net.rows[x], n), lambda key: unfolded(net, key))


def unfolded(net, key):
    """The sort of a cut at a key (side, row, how many steps are left), and by its steps the keys behind it."""
    side, row, left = key
    if left == 0:
        return ("all" if side == 1 else "none", {})
    moves = {step: (-side if step == FROM else side, end, left - 1) for step, end in net.moves[row].items()}
    return (net.heads[row][0], moves)
