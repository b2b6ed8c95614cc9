"""Roads: the steps that lead on from a kind, and where they lead."""

from coilkind.errors import TooMany
from coilkind.tellings import head_of, names_in, rows_of

MOST_ROADS = 1000
FROM = ("from",)
TO = ("to",)
# The first words of the steps of heads with words.
STEP_WORDS = {"box": "part", "pick": "case"}


class Net:
    """A telling laid out, so that its as rows are gone through once, however many roads are looked at."""

    def __init__(self, T):
        self.rows = rows_of(T)
        self.heads = {name: head for name, head in T if head[0] != "as"}
        # Two heads bear one mark just where they are of one sort with the same words.
        self.marks = {row: (head[0], tuple(steps_in(head))) for row, head in self.heads.items()}
        self.moves = {row: moves_in(head, self.rows) for row, head in self.heads.items()}


def steps_of(T, x):
    """The steps of a kind, sorted."""
    return steps_in(head_of(T, x))


def end_of(T, x, road):
    """The row to which a road leads from a kind, or None where it leads nowhere."""
    net = Net(T)
    row = net.rows[x]
    for step in road:
        if step not in net.moves[row]:
            return None
        row = net.moves[row][step]
    return row


def side_of(road):
    """1 where a road has an even number of from steps, else -1."""
    return 1 if road.count(FROM) % 2 == 0 else -1


def how_many(T, x, n):
    """How many roads of n steps lead from a kind: of side 1, of side -1."""
    net = Net(T)
    many = {net.rows[x]: (1, 0)}
    for turn in range(n):
        many = counted_on(net, many)
    return (sum([even for even, odd in many.values()]), sum([odd for even, odd in many.values()]))


def roads(T, x, n):
    """The roads of n steps that lead from a kind, in order."""
    if sum(how_many(T, x, n)) > MOST_ROADS:
        raise TooMany(MOST_ROADS)
    net = Net(T)
    reach = rows_by_reach(net, n)
    found = [((), net.rows[x])]
    for left in reversed(range(n)):
        # Roads that don't go on far enough may be far too many to be made.
        found = [(road + (step,), end) for road, row in found
                 for step, end in net.moves[row].items() if end in reach[left]]
    return [road for road, row in found]


def rows_met(T, x):
    """The rows to which roads lead from a kind, each with its least road, in the order of these."""
    net = Net(T)
    least_roads = {}
    for row, come_by in reached(net, net.rows[x]).items():
        if come_by is None:
            least_roads[row] = ()
        else:
            ahead, step = come_by
            least_roads[row] = least_roads[ahead] + (step,)
    return list(least_roads.items())


def steps_in(head):
    """The steps of a head, in its order: as words rise, they are sorted so."""
    if head[0] == "way":
        return [FROM, TO]
    if head[0] in STEP_WORDS:
        return [(STEP_WORDS[head[0]], word) for word, x in head[1]]
    return []


def head_by(sort, names):
    """The head of a sort, by its steps in their order the names to which they lead."""
    if sort in STEP_WORDS:
        return (sort, tuple([(step[1], x) for step, x in names.items()]))
    return tuple([sort] + list(names.values()))


def moves_in(head, rows):
    """The rows to which the steps of a head lead, by these steps, in their order."""
    return {step: rows[x] for step, x in zip(steps_in(head), names_in(head))}


def counted_on(net, many):
    """How many roads, by sides, lead to rows with one step more than those that are told by their ends."""
    further = {}
    for row, (even, odd) in many.items():
        for step, end in net.moves[row].items():
            more_even, more_odd = (odd, even) if step == FROM else (even, odd)
            so_even, so_odd = further.get(end, (0, 0))
            further[end] = (so_even + more_even, so_odd + more_odd)
    return further


def rows_by_reach(net, n):
    """For each number from 0 to n the rows from which a road of that many steps leads."""
    reach = [{row: True for row in net.moves}]
    for turn in range(n):
        near = reach[-1]
        reach.append({row: True for row in near if any([end in near for end in net.moves[row].values()])})
    return reach


def reached(net, first):
    """The rows to which roads lead from a row, in the order of their least roads: by each of them the row ahead of it
    on that road and the last step, None by the first one."""
    come_by = {first: None}
    waiting = [first]
    at = 0
    while at < len(waiting):
        row = waiting[at]
        for step, end in net.moves[row].items():
            if end not in come_by:
                come_by[end] = (row, step)
                waiting.append(end)
        at += 1
    return come_by


def road_back(trail, at):
    """The road to the thing numbered at: trail tells of each one the number of that ahead and the step to it, None of
    the first."""
    steps = []
    while trail[at] is not None:
        at, step = trail[at]
        steps.append(step)
    return tuple(steps[::-1])
