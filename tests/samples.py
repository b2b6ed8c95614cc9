"""Things that several tests hand in."""

import itertools


def nested(kind, depth):
    """Tuples, lists or dicts within one another."""
    thing = "a"
    for turn in range(depth):
        thing = {"tuple": (thing,), "list": [thing], "dict": {"a": thing}}[kind]
    return thing


def no_texts():
    """Things of every kind but texts; some bear names."""
    return [
        0, 1, -1, 26, 10 ** 30, True, False, None,
        (), ("a",), ("a", "b"), (("a",),), [], ["a"], [["a"]], {}, {"a": "a"}, {"a": {}}, {1: None},
        nested("tuple", 100), nested("list", 100), nested("dict", 100),
    ]


def other_signs():
    """All signs that a text may have but small letters."""
    signs = [chr(code) for code in range(32, 127)] + ["\n"]
    return [sign for sign in signs if not "a" <= sign <= "z"]


def names(many):
    """That many unlike names."""
    letters = "abcdefghijklmnopqrstuvwxyz"
    return ["r" + letters[k // 26] + letters[k % 26] for k in range(many)]


def told(*lines):
    """The telling of lines as a text has them, without a look at whether it is one."""
    return tuple(told_row(line.split()) for line in lines)


def told_row(words):
    name, sign, sort, *rest = words
    if sort in ("box", "pick"):
        return name, (sort, tuple(zip(rest[::2], rest[1::2])))
    if sort == "hole" and not rest:
        return name, ("hole",)
    return name, (sort, *rest) if sort in ("all", "none", "way") else ("as", sort)


def ring(many, head=lambda name: ("box", (("w", name),))):
    """Rows, each leading to the next one and the last to the first."""
    called = names(many)
    return tuple((name, head(called[(k + 1) % many])) for k, name in enumerate(called))


def chain_to(many, last, head=lambda name: ("box", (("w", name),))):
    """Rows, each leading to the next one, the last of them with another head."""
    return ring(many, head)[:-1] + ((names(many)[-1], last),)


def small_heads(called, words, sorts=("all", "none", "way", "box", "pick")):
    """All heads without as over these names of rows and words."""
    heads = [(sort,) for sort in ("all", "none") if sort in sorts]
    if "way" in sorts:
        heads += [("way", x, y) for x in called for y in called]
    for sort in ("box", "pick"):
        for many in range(len(words) + 1) if sort in sorts else ():
            for chosen in itertools.combinations(words, many):
                heads += [(sort, tuple(zip(chosen, ends))) for ends in itertools.product(called, repeat=many)]
    return heads


def some_telling(chance, many, words, sorts=("all", "none", "way", "box", "pick"), as_rows=True):
    """A telling by chance, perhaps with as rows; rings of these are cut."""
    called = names(many)
    heads = {}
    for k, name in enumerate(called):
        if as_rows and k and chance.randrange(4) == 0:
            heads[name] = ("as", chance.choice(called[:k]))
        else:
            heads[name] = some_head(chance, called, words, sorts)
    rows = list(heads.items())
    chance.shuffle(rows)
    return tuple(rows)


def some_head(chance, called, words, sorts):
    sort = chance.choice(sorts)
    if sort in ("all", "none", "hole"):
        return (sort,)
    if sort == "way":
        return (sort, chance.choice(called), chance.choice(called))
    chosen = sorted(chance.sample(words, chance.randrange(len(words) + 1)))
    return (sort, tuple((word, chance.choice(called)) for word in chosen))


def doubled(chance, T):
    """A telling with two rows for each row of T, called with a and b behind, each leading to any of the two: its kinds
    are alike to those of T. Some as rows are put between."""
    def copy_of(x):
        return x + chance.choice("ab")

    rows = []
    for name, head in T:
        for letter in "ab":
            if head[0] in ("box", "pick"):
                head = (head[0], tuple((word, copy_of(x[:3])) for word, x in head[1]))
            else:
                head = (head[0],) + tuple(copy_of(x[:3]) for x in head[1:])
            rows.append((name + letter, head))
        rows.append((name + "s", ("as", copy_of(name))))
    chance.shuffle(rows)
    return tuple(rows)


def with_one_changed(chance, T, words, sorts=("all", "none", "way", "box", "pick")):
    """T with another head at one of its rows."""
    at = chance.randrange(len(T))
    head = some_head(chance, [name for name, old in T], words, sorts)
    return T[:at] + ((T[at][0], head),) + T[at + 1:]


# One row of each of the six kinds of heads, boxes and picks with and without words.
EACH_HEAD = (
    ("top", ("box", (("a", "any"), ("ab", "no"), ("b", "top")))),
    ("any", ("all",)),
    ("no", ("none",)),
    ("go", ("way", "any", "go")),
    ("one", ("box", ())),
    ("two", ("pick", ())),
    ("cases", ("pick", (("z", "as"),))),
    ("as", ("as", "go")),
)

EACH_TEXT = "\n".join([
    "top = box a any ab no b top",
    "any = all",
    "no = none",
    "go = way any go",
    "one = box",
    "two = pick",
    "cases = pick z as",
    "as = go",
])
