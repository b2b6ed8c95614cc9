"""Things that several tests hand in."""


def nested(kind, depth):
    """Tuples, lists or dicts within one another."""
    thing = "a"
    for turn in range(depth):
        thing = {"tuple": (thing,), "list": [thing], "dict": {"a": thing}}[kind]
    return thing


def no_texts():
    """Things of every kind but texts; some bear names."""
    return [
        0, 1, -1, 26, 10 ** 30, True, False, None,
        (), ("a",), ("a", "b"), (("a",),), [], ["a"], [["a"]], {}, {"a": "a"}, {"a": {}}, {1: None},
        nested("tuple", 100), nested("list", 100), nested("dict", 100),
    ]


def other_signs():
    """All signs that a text may have but small letters."""
    signs = [chr(code) for code in range(32, 127)] + ["\n"]
    return [sign for sign in signs if not "a" <= sign <= "z"]


def names(many):
    """That many unlike names."""
    letters = "abcdefghijklmnopqrstuvwxyz"
    return ["r" + letters[k // 26] + letters[k % 26] for k in range(many)]


# One row of each of the six kinds of heads, boxes and picks with and without words.
EACH_HEAD = (
    ("top", ("box", (("a", "any"), ("ab", "no"), ("b", "top")))),
    ("any", ("all",)),
    ("no", ("none",)),
    ("go", ("way", "any", "go")),
    ("one", ("box", ())),
    ("two", ("pick", ())),
    ("cases", ("pick", (("z", "as"),))),
    ("as", ("as", "go")),
)

EACH_TEXT = "\n".join([
    "top = box a any ab no b top",
    "any = all",
    "no = none",
    "go = way any go",
    "one = box",
    "two = pick",
    "cases = pick z as",
    "as = go",
])
