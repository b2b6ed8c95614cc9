"""Sayings: what ought to lie within what, of tellings with holes; how holes are filled, or why they can't be."""

from coilkind.bounds import bound_of_rows, in_order
from coilkind.least import name_of, renamed
from coilkind.roads import Net
from coilkind.tellings import is_telling
from coilkind.within import looked_at, steps_between

MOST_ROWS = 12
MOST_HOLES = 6
HOLE = ("hole",)


class Following:
    """Pairs of rows of which the first ought to lie within the second, each with why: by what pairs ahead of it."""

    def __init__(self):
        self.pairs = []
        self.whys = []
        self.known = {}

    def take(self, pair, why):
        """Takes a pair in, if it is a new one."""
        if pair not in self.known:
            self.known[pair] = True
            self.pairs.append(pair)
            self.whys.append(why)


def is_holed(thing):
    """Whether thing, which may be anything, is a holed telling."""
    if not isinstance(thing, tuple) or not all([isinstance(row, tuple) and len(row) == 2 for row in thing]):
        return False
    heads = [head for name, head in thing]
    if len(heads) > MOST_ROWS or heads.count(HOLE) > MOST_HOLES:
        return False
    # But for its holes it is a telling: whatever stands there instead.
    T = tuple([(name, ("all",) if head == HOLE else head) for name, head in thing])
    return is_telling(T) and all([head[0] != "way" for name, head in T])


def filled(H, sayings):
    """("fits", low, high), the least and the greatest filling by which sayings hold, or ("clash", rows)."""
    net = Net(H)
    following, bad = followed(net, sayings)
    if bad is not None:
        return ("clash", clash_up_to(following, bad))
    return ("fits", filling_on(net, 1, following.pairs), filling_on(net, -1, following.pairs))


def is_clash(H, sayings, rows):
    """Whether rows, a list of tuples (text, text, why), are right ones of a clash."""
    net = Net(H)
    if len(rows) == 0 or not all([a in net.heads and b in net.heads for a, b, why in rows]):
        return False
    said = {(net.rows[a], net.rows[b]): True for a, b in sayings}
    a, b, why = rows[-1]
    return is_bad(net, (a, b)) and all([is_right(net, said, rows, at) for at in range(len(rows))])


def holds(H, sayings, filling):
    """Whether sayings hold by a filling, a dict of tellings by the names of the holes' rows."""
    net = Net(filled_out(H, filling))
    called = {name: name_of(k) for k, (name, head) in enumerate(H)}
    return all([lies_in_net(net, called[a], called[b]) for a, b in sayings])


def is_hole(net, row):
    """Whether a row is a hole's."""
    return net.heads[row] == HOLE


def is_bad(net, pair):
    """Whether a pair of rows is bad: neither is a hole, and the first can't lie within the second."""
    a, b = pair
    return not is_hole(net, a) and not is_hole(net, b) and steps_between(net.marks[a], net.marks[b]) is None


def followed(net, sayings):
    """All pairs that follow from sayings, up to the first bad one; and the number of that, or None."""
    following = Following()
    for a, b in sayings:
        following.take((net.rows[a], net.rows[b]), ("said",))
    at = 0
    while at < len(following.pairs):
        if is_bad(net, following.pairs[at]):
            return (following, at)
        follow_steps(net, following, at)
        follow_through(net, following, at)
        at += 1
    return (following, None)


def follow_steps(net, following, at):
    """Takes in the pairs to which steps lead from the pair numbered at, which isn't bad."""
    a, b = following.pairs[at]
    if is_hole(net, a) or is_hole(net, b):
        return
    for step in steps_between(net.marks[a], net.marks[b]):
        following.take((net.moves[a][step], net.moves[b][step]), ("step", at, step))


def follow_through(net, following, at):
    """Takes in the pairs that the pair numbered at and one ahead of it make by a hole between them."""
    a, b = following.pairs[at]
    for k in range(at):
        c, d = following.pairs[k]
        if b == c and is_hole(net, b):
            following.take((a, d), ("through", at, k))
        if d == a and is_hole(net, a):
            following.take((c, b), ("through", k, at))


def clash_up_to(following, bad):
    """The rows of a clash that ends with the pair numbered bad: those alone by which it follows."""
    needed = {bad: True}
    for k in reversed(range(bad + 1)):
        if k in needed:
            needed.update({ahead: True for ahead in numbers_in(following.whys[k])})
    number = {k: n for n, k in enumerate(sorted(needed))}
    return [following.pairs[k] + (renumbered(following.whys[k], number),) for k in number]


def numbers_in(why):
    """The numbers of the rows ahead of which a reason tells."""
    if why[0] == "step":
        return [why[1]]
    return list(why[1:])


def renumbered(why, number):
    """A reason with other numbers."""
    if why[0] == "step":
        return ("step", number[why[1]], why[2])
    return tuple([why[0]] + [number[k] for k in why[1:]])


def filling_on(net, side, pairs):
    """The least filling by which the pairs lie within one another, where side is 1, or the greatest, where it is -1."""
    meant = {}
    for row in net.heads:
        if not is_hole(net, row):
            meant[row] = (row,)
        elif side == 1:
            meant[row] = in_order([a for a, b in pairs if b == row and not is_hole(net, a)])
        else:
            meant[row] = in_order([b for a, b in pairs if a == row and not is_hole(net, b)])
    return {row: bound_of_rows(net, side, meant[row], meant) for row in net.heads if is_hole(net, row)}


def filled_out(H, filling):
    """A telling of the rows of H, called by their numbers, those of holes standing for the kinds of a filling."""
    rows = renamed(H, 0)
    more = []
    for k, (name, head) in enumerate(H):
        if head == HOLE:
            start = len(H) + len(more)
            rows[k] = (name_of(k), ("as", name_of(start)))
            more.extend(renamed(filling[name], start))
    return tuple(rows + more)


def lies_in_net(net, x, y):
    """Whether of two kinds of one net the first lies within the second."""
    looked, road = looked_at(net, x, net, y)
    return road is None


def is_right(net, said, rows, at):
    """Whether the row numbered at, of rows of a clash, follows as it tells."""
    a, b, why = rows[at]
    if why[0] == "said":
        return (a, b) in said
    if not all([0 <= k < at for k in numbers_in(why)]):
        return False
    if why[0] == "step":
        return is_behind(net, rows[why[1]], why[2], (a, b))
    ahead, behind = rows[why[1]], rows[why[2]]
    return ahead[0] == a and behind[1] == b and ahead[1] == behind[0] and is_hole(net, ahead[1])


def is_behind(net, row, step, pair):
    """Whether a step is one to be looked at behind the two of a row of a clash, and leads to a pair."""
    a, b, why = row
    steps = steps_between(net.marks[a], net.marks[b])
    return steps is not None and step in steps and (net.moves[a][step], net.moves[b][step]) == pair
