"""What the document asks for, reckoned as plainly as its words say it, for small tellings alone."""

import functools
import itertools


def row(T, x):
    """The row of x."""
    heads = dict(T)
    while heads[x][0] == "as":
        x = heads[x][1]
    return x


def moves(T, x):
    """The steps of a kind, each with the name to which it leads."""
    head = dict(T)[row(T, x)]
    if head[0] == "way":
        return {("from",): head[1], ("to",): head[2]}
    if head[0] == "box":
        return {("part", word): y for word, y in head[1]}
    if head[0] == "pick":
        return {("case", word): y for word, y in head[1]}
    return {}


def mark(T, x):
    """The sort and the words of a kind."""
    head = dict(T)[row(T, x)]
    words = [word for word, y in head[1]] if head[0] in ("box", "pick") else []
    return head[0], words


def end(T, x, road):
    """A road's end, or None."""
    if road == ():
        return row(T, x)
    further = moves(T, x)
    return end(T, further[road[0]], road[1:]) if road[0] in further else None


def turned(road):
    """Whether a road's side is -1."""
    return len([step for step in road if step == ("from",)]) % 2 == 1


def roads(T, x, n):
    """All roads of n steps."""
    if n == 0:
        return [()]
    found = [(step,) + road for step, y in moves(T, x).items() for road in roads(T, y, n - 1)]
    return sorted(found)


def roads_up_to(T, x, n):
    """All roads of at most n steps, in order."""
    return [road for many in range(n + 1) for road in roads(T, x, many)]


def how_many(T, x, n):
    """How many roads of n steps lead from a kind, by sides."""
    @functools.lru_cache(maxsize=None)
    def counted(name, left):
        if left == 0:
            return 1, 0
        even, odd = 0, 0
        for step, y in moves(T, name).items():
            more = counted(row(T, y), left - 1)
            even += more[step == ("from",)]
            odd += more[step != ("from",)]
        return even, odd
    return counted(row(T, x), n)


def rows_met(T, x):
    """The rows to which roads lead, each by the first road that comes there: no least road goes through a row twice."""
    found = {}
    for road in roads_up_to(T, x, len(T)):
        found.setdefault(end(T, x, road), road)
    return list(found.items())


def parting(T, x, S, y):
    """The least road that parts two kinds, or None: kinds of n and m rows are parted within n + m steps, if at all."""
    for road in roads_up_to(T, x, len(T) + len(S)):
        other = end(S, y, road)
        if other is not None and mark(T, end(T, x, road)) != mark(S, other):
            return road
    return None


def parting_by_pairs(T, x, S, y):
    """The same for tellings with too many roads: each pair of rows is gone on from once, by its least road."""
    known = {(row(T, x), row(S, y)): ()}
    level = list(known)
    while level:
        further = []
        for a, b in level:
            if mark(T, a) != mark(S, b):
                return known[a, b]
            for step in sorted(moves(T, a)):
                pair = row(T, moves(T, a)[step]), row(S, moves(S, b)[step])
                if pair not in known:
                    known[pair] = known[a, b] + (step,)
                    further.append(pair)
        level = further
    return None


def is_alike_paper(T, x, S, y, paper):
    """Whether a paper is right, pair by pair."""
    if (row(T, x), row(S, y)) not in paper:
        return False
    for a, b in paper:
        if a not in dict(T) or b not in dict(S) or row(T, a) != a or row(S, b) != b or mark(T, a) != mark(S, b):
            return False
        for step in moves(T, a):
            if (row(T, moves(T, a)[step]), row(S, moves(S, b)[step])) not in paper:
                return False
    return True


def is_settled(u, v):
    """Whether marks, u's ought to lie within v's, settle it."""
    return v[0] == "all" or u[0] == "none"


def is_bad(u, v):
    """Whether marks are bad, as u's ought to lie within v's."""
    if is_settled(u, v):
        return False
    if u[0] != v[0]:
        return True
    if u[0] == "box":
        return not set(v[1]) <= set(u[1])
    return u[0] == "pick" and not set(u[1]) <= set(v[1])


def behind(u, v):
    """The steps to be looked at behind marks that are not bad."""
    if is_settled(u, v):
        return []
    if u[0] == "way":
        return [("from",), ("to",)]
    if u[0] == "box":
        return [("part", word) for word in v[1]]
    return [("case", word) for word in u[1]]


def ordered(side, a, b):
    """What ought to lie within, and within what."""
    return (a, b) if side == 1 else (b, a)


def bad_road(T, x, S, y, longest):
    """The least bad road of at most that many steps, or None."""
    looked = [()]
    for many in range(longest + 1):
        further = []
        for road in sorted(looked):
            side = -1 if turned(road) else 1
            u, v = ordered(side, mark(T, end(T, x, road)), mark(S, end(S, y, road)))
            if is_bad(u, v):
                return road
            further += [road + (step,) for step in behind(u, v)]
        looked = further
    return None


def is_within_paper(T, x, S, y, paper):
    """Whether a paper is right, tuple by tuple."""
    if (1, row(T, x), row(S, y)) not in paper:
        return False
    for side, a, b in paper:
        if side not in (1, -1) or a not in dict(T) or b not in dict(S) or row(T, a) != a or row(S, b) != b:
            return False
        u, v = ordered(side, mark(T, a), mark(S, b))
        if is_bad(u, v):
            return False
        for step in behind(u, v):
            turn = -side if step == ("from",) else side
            if (turn, row(T, moves(T, a)[step]), row(S, moves(S, b)[step])) not in paper:
                return False
    return True


def within_by_rounds(T, S):
    """The tuples (side, a, b) by which there is nothing bad: all, but those that are bad or lead to one taken away."""
    rows = [[name for name, head in telling if head[0] != "as"] for telling in (T, S)]
    left = set(itertools.product((1, -1), *rows))

    def stays(side, a, b):
        u, v = ordered(side, mark(T, a), mark(S, b))
        return not is_bad(u, v) and all(
            (-side if step == ("from",) else side, row(T, moves(T, a)[step]), row(S, moves(S, b)[step])) in left
            for step in behind(u, v))

    while True:
        fewer = {triple for triple in left if stays(*triple)}
        if fewer == left:
            return left
        left = fewer


def pieces(thing):
    """How many pieces a thing has."""
    return 1 + (sum(pieces(part) for word, part in thing[1]) if thing[0] == "box" else pieces(thing[2]))


def is_of(T, x, thing):
    """Whether a thing is of a kind."""
    head = dict(T)[row(T, x)]
    if head[0] in ("none", "way"):
        return False
    if head[0] == "all":
        return True
    if head[0] != thing[0]:
        return False
    if head[0] == "box":
        parts = dict(thing[1])
        return all(word in parts and is_of(T, y, parts[word]) for word, y in head[1])
    return thing[1] in dict(head[1]) and is_of(T, dict(head[1])[thing[1]], thing[2])


@functools.lru_cache(maxsize=None)
def things(words, n):
    """All things of n pieces with words of that tuple, made one by one."""
    if n == 0:
        return ()
    found = [("pick", word, part) for word in words for part in things(words, n - 1)]
    return tuple(found + [("box", parts) for parts in parts_of(tuple(sorted(words)), tuple(words), n - 1)])


def parts_of(left, words, n):
    """All parts of boxes, n pieces together, at some of the words that are left."""
    if not left:
        return [()] if n == 0 else []
    found = parts_of(left[1:], words, n)
    for many in range(1, n + 1):
        rest = parts_of(left[1:], words, n - many)
        found = found + [((left[0], part),) + behind for part in things(words, many) for behind in rest]
    return found


def first_thing(words, most, is_such):
    """The fewest pieces, at most so many, of a thing that is such a one, or None."""
    for n in range(1, most + 1):
        if any(is_such(thing) for thing in things(words, n)):
            return n
    return None


def rows_with_things(T):
    """The names of the rows whose kinds have things, round by round."""
    found = set()
    while True:
        more = {name for name, head in T if has_thing(found, head)}
        if more == found:
            return found
        found = more


def has_thing(found, head):
    """Whether a head has a thing where just the found rows are known to have some."""
    if head[0] == "as":
        return head[1] in found
    if head[0] == "box":
        return all(x in found for word, x in head[1])
    if head[0] == "pick":
        return any(x in found for word, x in head[1])
    return head[0] == "all"


def pruned(T):
    """A telling with the same names, whose kinds are those of T pruned."""
    found = rows_with_things(T)
    rows = []
    for name, head in T:
        if head[0] == "pick":
            head = ("pick", tuple((word, x) for word, x in head[1] if x in found))
        rows.append((name, head if name in found or head[0] == "as" else ("none",)))
    return tuple(rows)


def is_cut(T, x, n, side, S):
    """Whether S tells the cut of x at n, with all at the ends of that side: road by road."""
    first = S[0][0]
    for road in roads_up_to(T, x, n):
        other = end(S, first, road)
        if other is None:
            return False
        if len(road) < n and mark(S, other) != mark(T, end(T, x, road)):
            return False
        if len(road) == n and mark(S, other)[0] != ("all" if turned(road) == (side == -1) else "none"):
            return False
    return True


def filled_out(H, filling):
    """H with the rows of a filling's kinds behind it, under names that it hasn't, and as rows in the place of holes."""
    rows, more = [], []
    for k, (name, head) in enumerate(H):
        if head == ("hole",):
            kind = filling[name]
            called = {x: f"{k} {x}" for x, other in kind}
            rows.append((name, ("as", called[kind[0][0]])))
            more += [(called[x], with_names(other, called)) for x, other in kind]
        else:
            rows.append((name, head))
    return tuple(rows + more)


def with_names(head, called):
    """A head with other names of rows."""
    if head[0] in ("box", "pick"):
        return head[0], tuple((word, called[x]) for word, x in head[1])
    return (head[0],) + tuple(called[x] for x in head[1:])


def holds(H, sayings, filling):
    """Whether sayings hold by a filling."""
    T = filled_out(H, filling)
    right = within_by_rounds(T, T)
    return all((1, row(T, a), row(T, b)) in right for a, b in sayings)


def is_clash(H, sayings, rows):
    """Whether rows are right ones of a clash, row by row."""
    heads = dict(H)
    for n, (a, b, why) in enumerate(rows):
        if a not in heads or b not in heads or "as" in (heads[a][0], heads[b][0]):
            return False
        if why[0] == "said" and (a, b) not in [(row(H, x), row(H, y)) for x, y in sayings]:
            return False
        if why[0] == "step":
            if why[1] not in range(n):
                return False
            c, d, other = rows[why[1]]
            u, v = mark(H, c), mark(H, d)
            if u[0] != v[0] or u[0] not in ("box", "pick") or is_bad(u, v) or why[2] not in behind(u, v):
                return False
            if (row(H, moves(H, c)[why[2]]), row(H, moves(H, d)[why[2]])) != (a, b):
                return False
        if why[0] == "through":
            if why[1] not in range(n) or why[2] not in range(n):
                return False
            (c, h, other), (g, d, another) = rows[why[1]], rows[why[2]]
            if (c, d) != (a, b) or h != g or heads[h] != ("hole",):
                return False
    if not rows or "hole" in (heads[rows[-1][0]][0], heads[rows[-1][1]][0]):
        return False
    return is_bad(mark(H, rows[-1][0]), mark(H, rows[-1][1]))
