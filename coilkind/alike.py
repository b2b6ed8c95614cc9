"""Alike: kinds that are the same when unfolded."""

from coilkind.roads import Net, road_back


class Parting:
    """Rows in classes, and the classes by which all others are still to be parted."""

    def __init__(self):
        self.members = []
        self.number = {}
        self.waiting = []
        self.waits = {}

    def begin(self, rows):
        """Makes a new class of rows that are in none; tells its number."""
        at = len(self.members)
        self.members.append({row: True for row in rows})
        for row in rows:
            self.number[row] = at
        return at

    def put_off(self, at):
        """Lets a class wait, all others to be parted by it."""
        self.waiting.append(at)
        self.waits[at] = True

    def take_waiting(self):
        """The number of a class that waits no longer."""
        at = self.waiting.pop()
        del self.waits[at]
        return at

    def part(self, rows):
        """Takes rows of one class out of it, into one of their own, where others stay behind."""
        at = self.number[rows[0]]
        staying = self.members[at]
        if len(rows) == len(staying):
            return
        for row in rows:
            del staying[row]
        new = self.begin(rows)
        # Where all are parted by the whole class already, each of its halves parts them alike: so the smaller one
        # does, and no row is come back to more often than its class can be halved.
        if at in self.waits or len(rows) <= len(staying):
            self.put_off(new)
        else:
            self.put_off(at)


def alike(T, x, S, y):
    """("alike", paper), or ("unlike", road) by the least road that parts two kinds."""
    left, right = Net(T), Net(S)
    first = (left.rows[x], right.rows[y])
    road = parting_road(left, right, first)
    if road is None:
        return ("alike", pairs_met(left, right, first))
    return ("unlike", road)


def are_alike(T, x, S, y):
    """Whether two kinds are alike."""
    left, right = Net(T), Net(S)
    return parting_road(left, right, (left.rows[x], right.rows[y])) is None


def is_alike_paper(T, x, S, y, paper):
    """Whether a paper, a list of pairs of texts, is right for two kinds."""
    left, right = Net(T), Net(S)
    standing = {pair: True for pair in paper}
    if (left.rows[x], right.rows[y]) not in standing:
        return False
    return all([is_upheld(left, right, pair, standing) for pair in standing])


def classes(T):
    """The names of a telling, those alike in one list, in the order of rows."""
    net = Net(T)
    number = class_numbers(net, list(net.heads))
    told = {}
    for name, head in T:
        told.setdefault(number[net.rows[name]], []).append(name)
    return list(told.values())


def parting_road(left, right, first):
    """The least road that parts the two rows of a pair, or None where they are alike."""
    pairs = [first]
    trail = [None]
    above = {}
    at = 0
    while at < len(pairs):
        a, b = pairs[at]
        if left.marks[a] != right.marks[b]:
            return road_back(trail, at)
        # What parts two rows of one heap parts a pair ahead as well, by a lesser road: nothing is missed behind them.
        if put_in_one(above, ("left", a), ("right", b)):
            for step, pair in pairs_behind(left, right, pairs[at]):
                pairs.append(pair)
                trail.append((at, step))
        at += 1
    return None


def put_in_one(above, a, b):
    """Puts the heaps of two things together; tells whether they were apart."""
    top, other = top_of(above, a), top_of(above, b)
    if top == other:
        return False
    above[top] = other
    return True


def top_of(above, thing):
    """The thing that stands for the whole heap of a thing."""
    while thing in above:
        upper = above[thing]
        # Made shorter while it is gone, no way up grows long.
        if upper in above:
            above[thing] = above[upper]
        thing = upper
    return thing


def pairs_behind(left, right, pair):
    """The steps of the two rows of a pair, whose heads bear one mark, each with the pair to which it leads."""
    a, b = pair
    return [(step, (end, right.moves[b][step])) for step, end in left.moves[a].items()]


def pairs_met(left, right, first):
    """The pairs to which roads lead from a pair of alike rows: each right paper bears them, and so they are one."""
    pairs = [first]
    seen = {first}
    at = 0
    while at < len(pairs):
        for step, pair in pairs_behind(left, right, pairs[at]):
            if pair not in seen:
                seen.add(pair)
                pairs.append(pair)
        at += 1
    return pairs


def is_upheld(left, right, pair, standing):
    """Whether a pair is one of rows with heads of one mark, and the pairs behind it are standing."""
    a, b = pair
    if a not in left.marks or b not in right.marks or left.marks[a] != right.marks[b]:
        return False
    return all([behind in standing for step, behind in pairs_behind(left, right, pair)])


def class_numbers(net, rows):
    """By rows a number, the same just where they are alike; steps lead from these rows to these rows alone."""
    parting = Parting()
    by_marks = {}
    for row in rows:
        by_marks.setdefault(net.marks[row], []).append(row)
    for many in by_marks.values():
        parting.put_off(parting.begin(many))
    sources = sources_of(net, rows)
    while parting.waiting:
        part_by(parting, sources, parting.take_waiting())
    return parting.number


def sources_of(net, rows):
    """By rows the steps that lead there, each with the row from which it does."""
    sources = {row: [] for row in rows}
    for row in rows:
        for step, end in net.moves[row].items():
            sources[end].append((step, row))
    return sources


def part_by(parting, sources, at):
    """Parts each class: the rows from which a step leads into the class numbered at, and the others."""
    # All are gathered first, as the class may be parted by itself.
    leading = {}
    for end in parting.members[at]:
        for step, row in sources[end]:
            leading.setdefault(step, []).append(row)
    for rows in leading.values():
        touched = {}
        for row in rows:
            touched.setdefault(parting.number[row], []).append(row)
        for many in touched.values():
            parting.part(many)
