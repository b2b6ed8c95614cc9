"""Makers that several tests hand in."""

from samples import told

# Lists, truths, ways, kinds that go round by ways.
T = told("a = all", "n = none", "u = box", "l = pick cons p nil u", "p = box head a tail l", "f = way l l",
         "d = way d n", "t = pick no u yes u", "g = way a t", "e = pick", "s = l", "w = way w w", "q = box v t w g",
         "z = way n a")
UNIT = ("box", ())
NIL = ("pick", "nil", UNIT)


def get(v):
    return ("get", v)


def fn(v, x, m):
    return ("fn", v, x, m)


def call(m, n):
    return ("call", m, n)


def box(**parts):
    return ("box", tuple(sorted(parts.items())))


def part(m, w):
    return ("part", m, w)


def pick(w, m):
    return ("pick", w, m)


def split(m, **cases):
    return ("split", m, tuple((w, v, n) for w, (v, n) in sorted(cases.items())))


def hold(m, x):
    return ("hold", m, x)


def cons(head, tail):
    return pick("cons", box(head=head, tail=tail))


# Does on and on the same.
ROUND = call(fn("x", "d", call(get("x"), get("x"))), fn("x", "d", call(get("x"), get("x"))))


def some_maker(chance, known, deep, rows, wild=0.05):
    """A maker by chance, most often without fault; known are the names that are bound."""
    forms = ["unit", "fn", "box", "pick"] + ["get"] * 4 * bool(known)
    if deep > 1:
        forms += ["call"] * 4 + ["part"] * 3 + ["split"] * 4 + ["hold"] * 2 + ["box", "pick", "fn", "call"]
    form = chance.choice(forms)

    def inner(more=()):
        return some_maker(chance, known + list(more), deep - 1, rows, wild)

    odd = chance.random() < wild
    if form == "unit" or deep <= 1 and form != "get":
        return UNIT
    if form == "get":
        return get(chance.choice(known))
    if form == "fn":
        v = chance.choice("xyz")
        return fn(v, chance.choice(rows), inner([v]))
    if form == "box":
        return box(**{w: inner() for w in chance.sample(["head", "tail", "v", "w"], chance.randrange(3))})
    if form == "pick":
        return pick(chance.choice(["cons", "nil", "yes", "no"]), inner())
    if form == "call":
        v = chance.choice("xyz")
        return call(inner() if odd or chance.randrange(4) == 0 else fn(v, chance.choice("aaalts"), inner([v])), inner())
    if form == "part":
        w = chance.choice(["head", "tail", "v", "w"])
        parts = {w: inner(), chance.choice("vw"): inner()}
        return part(inner() if odd or chance.randrange(6) == 0 else box(**parts), w)
    if form == "split":
        v, w = chance.choice("xyz"), chance.choice(["cons", "nil", "yes", "no"])
        words = chance.sample(["cons", "nil", "yes", "no"], chance.randrange(1, 4))
        words = words if odd or w in words else words + [w]
        cases = {word: (v, inner([v])) for word in words}
        return split(inner() if odd or chance.randrange(4) == 0 else pick(w, inner()), **cases)
    return hold(inner(), chance.choice(rows if odd else "aaalts"))
