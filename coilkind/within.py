"""Within: a kind that lies within another one."""

from coilkind.roads import FROM, Net, road_back


def within(T, x, S, y):
    """("within", paper), or ("beyond", road) by the least bad road."""
    looked, road = looked_at(Net(T), x, Net(S), y)
    if road is None:
        return ("within", looked)
    return ("beyond", road)


def lies_within(T, x, S, y):
    """Whether one kind lies within another."""
    looked, road = looked_at(Net(T), x, Net(S), y)
    return road is None


def is_within_paper(T, x, S, y, paper):
    """Whether a paper, a list of tuples (number, text, text), is right for two kinds."""
    left, right = Net(T), Net(S)
    standing = {triple: True for triple in paper}
    if (1, left.rows[x], right.rows[y]) not in standing:
        return False
    return all([is_upheld(left, right, triple, standing) for triple in standing])


def looked_at(left, x, right, y):
    """The tuples (side, a, b) that are looked at, in the order of their least roads, up to a bad one; and the road to
    that, or None where there is none."""
    looked = [(1, left.rows[x], right.rows[y])]
    seen = set(looked)
    trail = [None]
    at = 0
    while at < len(looked):
        steps = steps_looked_at(left, right, looked[at])
        if steps is None:
            return (looked, road_back(trail, at))
        for step in steps:
            triple = triple_behind(left, right, looked[at], step)
            if triple not in seen:
                seen.add(triple)
                looked.append(triple)
                trail.append((at, step))
        at += 1
    return (looked, None)


def steps_looked_at(left, right, triple):
    """The steps to be looked at behind a tuple (side, a, b): none where it is settled; None where it is bad."""
    side, a, b = triple
    if side == 1:
        return steps_between(left.marks[a], right.marks[b])
    return steps_between(right.marks[b], left.marks[a])


def steps_between(lower, upper):
    """The steps to be looked at behind two heads, told by their marks, where the first ought to lie within the second:
    none where that is settled; None where it is bad."""
    if upper[0] == "all" or lower[0] == "none":
        return ()
    if lower[0] != upper[0]:
        return None
    # Of ways both have the same steps.
    fewer, more = (lower[1], upper[1]) if lower[0] == "pick" else (upper[1], lower[1])
    return fewer if all([step in more for step in fewer]) else None


def triple_behind(left, right, triple, step):
    """The tuple to which a step leads from one."""
    side, a, b = triple
    return (-side if step == FROM else side, left.moves[a][step], right.moves[b][step])


def is_upheld(left, right, triple, standing):
    """Whether a tuple (side, a, b) is one of rows that isn't bad, and those to be looked at behind it are standing."""
    side, a, b = triple
    if side not in (1, -1) or a not in left.marks or b not in right.marks:
        return False
    steps = steps_looked_at(left, right, triple)
    if steps is None:
        return False
    return all([triple_behind(left, right, triple, step) in standing for step in steps])
