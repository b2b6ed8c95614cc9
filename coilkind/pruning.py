"""Pruning: kinds by their things alone."""

from coilkind.least import least, put_together
from coilkind.recipes import BARE_BOX, cheapest
from coilkind.roads import Net, head_by
from coilkind.things import recipes_in, smallest


def pruned(T, x):
    """The least telling of a kind in which what has no thing is none, and cases that have none are left out."""
    net = Net(T)
    found = cheapest(net.rows[x], lambda row: recipes_in(net, row))
    if net.rows[x] not in found:
        return put_together("none", [])
    # All parts of a box that has things have some: so each row is found to which a head leads that is left.
    return least(tuple([(row, head_left(net, row, found)) for row in found]), net.rows[x])


def parting(T, x, S, y):
    """(number, thing) by the fewest pieces of a thing of the first kind that isn't of the second, or None."""
    left, right = Net(T), Net(S)
    return smallest((left.rows[x], right.rows[y]), lambda key: recipes_apart(left, right, key))


def head_left(net, row, found):
    """The head of a row without the steps that lead to what isn't found."""
    return head_by(net.heads[row][0], {step: end for step, end in net.moves[row].items() if end in found})


def recipes_apart(left, right, key):
    """The recipes, by such keys, for a key (a, b): of the smallest things of the kind of a that aren't of that of b;
    for (a, None) of those of all its things, for (None, None) of anything."""
    a, b = key
    if a is None:
        return [BARE_BOX]
    whole = [(sort, words, tuple([(end, None) for end in ends])) for sort, words, ends in recipes_in(left, a)]
    lower = left.heads[a][0]
    upper = "none" if b is None else right.heads[b][0]
    if upper == "all" or len(whole) == 0:
        return []
    if lower == "all" and upper == "box" and len(right.moves[b]) == 0:
        return [("pick", ("a",), ((None, None),))]
    if lower != upper:
        # No thing of the one sort is of the other; and of all the barest box has none of the words that are asked for.
        return whole
    if lower == "box":
        return boxes_apart(left, right, key, whole)
    return picks_apart(left, right, key)


def boxes_apart(left, right, key, whole):
    """The recipes of boxes of the first row of a key that aren't of the second; whole are those of all of its boxes."""
    a, b = key
    ends, others = left.moves[a], right.moves[b]
    if not all([step in ends for step in others]):
        return whole
    words = tuple([step[1] for step in ends])
    return [("box", words, tuple([(ends[step], others[step] if step == apart else None) for step in ends]))
            for apart in others]


def picks_apart(left, right, key):
    """The recipes of picks of the first row of a key that aren't of the second."""
    a, b = key
    ends, others = left.moves[a], right.moves[b]
    return [("pick", (step[1],), ((ends[step], others.get(step)),)) for step in ends]
