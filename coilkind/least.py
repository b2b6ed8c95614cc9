"""The least telling of a kind: of fewest rows, and the same for all kinds that are alike."""

from coilkind.alike import class_numbers
from coilkind.names import LETTERS
from coilkind.roads import Net, head_by, reached
from coilkind.tellings import WORDED, head_with, names_in


def name_of(k):
    """The name of row k of a least telling."""
    signs = LETTERS[k % len(LETTERS)]
    while k >= len(LETTERS):
        k = k // len(LETTERS)
        signs = LETTERS[k % len(LETTERS)] + signs
    return "k" + signs


def least(T, x):
    """The least telling of a kind."""
    net = Net(T)
    met = list(reached(net, net.rows[x]))
    number = class_numbers(net, met)
    # The first row of each class is the one to which the least road of them leads.
    firsts = {}
    for row in met:
        firsts.setdefault(number[row], row)
    called = {at: name_of(k) for k, at in enumerate(firsts)}
    rows = []
    for at, row in firsts.items():
        ends = [called[number[end]] for end in net.moves[row].values()]
        rows.append((called[at], head_with(net.heads[row], ends)))
    return tuple(rows)


def put_together(sort, kinds):
    """The least telling of the kind whose head is of that sort, with kinds in its places."""
    worded = sort in WORDED
    tellings = [kind for word, kind in kinds] if worded else kinds
    rows = []
    firsts = []
    for T in tellings:
        # The number 0 is that of the head.
        start = len(rows) + 1
        firsts.append(name_of(start))
        rows.extend(renamed(T, start))
    head = (sort, tuple(zip([word for word, kind in kinds], firsts))) if worded else tuple([sort] + firsts)
    return least(tuple([(name_of(0), head)] + rows), name_of(0))


def least_unfolded(first, unfold):
    """The least telling of the kind of a key: unfold tells of a key the sort of its head and, by the steps of that in
    their order, the keys behind it."""
    called = {first: name_of(0)}
    keys = [first]
    rows = []
    while len(rows) < len(keys):
        key = keys[len(rows)]
        sort, moves = unfold(key)
        for end in moves.values():
            if end not in called:
                called[end] = name_of(len(keys))
                keys.append(end)
        rows.append((called[key], head_by(sort, {step: called[end] for step, end in moves.items()})))
    return least(tuple(rows), name_of(0))


def renamed(T, start):
    """The rows of a telling, named by numbers from start on."""
    called = {name: name_of(start + k) for k, (name, head) in enumerate(T)}
    return [(called[name], head_with(head, [called[x] for x in names_in(head)])) for name, head in T]
