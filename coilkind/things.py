"""Things: boxes of things and picks, and of what kinds they are."""

from coilkind.errors import TooMany
from coilkind.names import are_rising, is_name
from coilkind.recipes import BARE_BOX, cheapest, made_within
from coilkind.roads import Net, reached

MOST_PIECES = 100


def is_thing(thing):
    """Whether thing, which may be anything, is a thing."""
    level = [thing]
    while level:
        if not all([is_formed(one) for one in level]):
            return False
        inner = [part for one in level for part in parts_in(one)]
        # One tuple may stand in so many places that they couldn't be gone to one by one.
        level = [one for at, one in enumerate(inner) if at == 0 or one != inner[at - 1]]
    return True


def pieces(thing):
    """How many pieces a thing has."""
    many = 0
    waiting = [thing]
    while waiting:
        one = waiting.pop()
        waiting.extend(parts_in(one))
        many += 1
    return many


def is_of(T, x, thing):
    """Whether a thing is of a kind."""
    net = Net(T)
    waiting = [(net.rows[x], thing)]
    while waiting:
        row, one = waiting.pop()
        behind = asked_behind(net, row, one)
        if behind is None:
            return False
        waiting.extend(behind)
    return True


def fewest(T, x):
    """(number, thing) by the fewest pieces of a thing of a kind, or None where there is no such thing."""
    net = Net(T)
    return smallest(net.rows[x], lambda row: recipes_in(net, row))


def how_many_things(T, x, words, n):
    """How many things of a kind have n pieces, all their words among these."""
    net = Net(T)
    rows = list(reached(net, net.rows[x]))
    # By rows, and by None of anything, how many things there are of 0 pieces, 1, and so on.
    counts = {row: [0] for row in [None] + rows}
    for turn in range(n):
        more = {row: counted_on(net, counts, row, words) for row in counts}
        for row, many in more.items():
            counts[row].append(many)
    return counts[net.rows[x]][n]


def smallest(first, recipes_of):
    """(number, thing) by the fewest pieces of what recipes make of their first key, or None."""
    found = cheapest(first, recipes_of)
    if first not in found:
        return None
    many, recipe = found[first]
    if many > MOST_PIECES:
        raise TooMany(many)
    return (many, made_within(found, many)[first])


def is_formed(thing):
    """Whether thing is made as a thing; whether what stands in it is one isn't asked."""
    if not isinstance(thing, tuple) or len(thing) == 0:
        return False
    if thing[0] == "pick":
        return len(thing) == 3 and is_name(thing[1])
    if thing[0] != "box" or len(thing) != 2 or not isinstance(thing[1], tuple):
        return False
    if not all([isinstance(pair, tuple) and len(pair) == 2 for pair in thing[1]]):
        return False
    return are_rising([word for word, part in thing[1]])


def parts_in(thing):
    """The things that stand straight in a thing."""
    if thing[0] == "box":
        return [part for word, part in thing[1]]
    return [thing[2]]


def asked_behind(net, row, thing):
    """Pairs (row, thing): a thing is of a row's kind just where each of these is so; None where it isn't anyhow."""
    sort = net.heads[row][0]
    if sort == "all":
        return []
    if sort != thing[0]:
        return None
    parts = {("part", word): part for word, part in thing[1]} if sort == "box" else {("case", thing[1]): thing[2]}
    moves = net.moves[row]
    fewer, more = (moves, parts) if sort == "box" else (parts, moves)
    if not all([step in more for step in fewer]):
        return None
    return [(moves[step], parts[step]) for step in fewer]


def recipes_in(net, row):
    """The recipes of the things of a row's kind, by rows, of which the smallest are among them."""
    sort = net.heads[row][0]
    if sort == "all":
        return [BARE_BOX]
    moves = net.moves[row]
    if sort == "box":
        return [("box", tuple([step[1] for step in moves]), tuple(moves.values()))]
    if sort == "pick":
        return [("pick", (step[1],), (end,)) for step, end in moves.items()]
    return []


def counted_on(net, counts, row, words):
    """How many things of a row's kind, or of anything, have one piece more than those that are counted."""
    sort = "all" if row is None else net.heads[row][0]
    many = 0
    if sort in ("all", "box"):
        many += count_boxes(counts, {} if sort == "all" else parts_by_words(net, row), words)
    if sort == "all":
        many += len(words) * counts[None][-1]
    if sort == "pick":
        many += sum([counts[end][-1] for step, end in net.moves[row].items() if step[1] in words])
    return many


def parts_by_words(net, row):
    """The rows to which the steps of a row with words lead, by these words."""
    return {step[1]: end for step, end in net.moves[row].items()}


def count_boxes(counts, parts, words):
    """How many boxes, with things of their kinds at the words of parts, have one piece more than those counted."""
    if not all([word in words for word in parts]):
        return 0
    most = len(counts[None]) - 1
    # At a word that isn't asked for anything may stand, or nothing.
    free = [1] + counts[None][1:]
    # How many choices there are, for the words looked at so far, by the pieces that stand there.
    choices = [1] + [0] * most
    for word in words:
        series = counts[parts[word]] if word in parts else free
        choices = [sum([choices[k] * series[many - k] for k in range(many + 1)]) for many in range(most + 1)]
    return choices[most]
