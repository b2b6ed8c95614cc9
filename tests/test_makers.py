import copy
import itertools
import random
import unittest

import plain_makers
from coilkind.makers import is_maker, maker_at
from samples import nested, no_texts, other_signs, told
from some_makers import NIL, ROUND, T, UNIT, box, call, cons, fn, get, hold, part, pick, some_maker, split

EACH = [get("x"), fn("x", "a", get("x")), call(get("x"), get("y")), UNIT, box(v=get("x")), box(v=UNIT, w=get("y")),
        part(get("x"), "w"), pick("w", UNIT), split(get("x")), split(get("x"), v=("y", get("y"))),
        split(UNIT, v=("y", get("x")), w=("y", UNIT)), hold(UNIT, "a"), NIL, cons(UNIT, NIL), ROUND]


def chain(many, inner=UNIT):
    """So many makers within one another, each in the next."""
    maker = inner
    forms = [lambda m: pick("w", m), lambda m: box(w=m), lambda m: part(m, "w"), lambda m: hold(m, "a"),
             lambda m: fn("x", "a", m), lambda m: call(m, UNIT), lambda m: call(UNIT, m), lambda m: split(m),
             lambda m: split(UNIT, w=("x", m))]
    for turn in range(many - 1):
        maker = forms[turn % len(forms)](maker)
    return maker


def of_size(many):
    """A maker in which so many stand, few of them within one another."""
    maker, left = UNIT, many - 1
    while left:
        fewer = min(left, 8) - 1
        maker = ("box", (("a", maker),) + tuple(("b" + "abcdefgh"[k], UNIT) for k in range(fewer)))
        left -= fewer + 1
    return maker


class IsMaker(unittest.TestCase):
    def yes(self, thing, S=T):
        self.assertIs(is_maker(S, thing), True, repr(thing)[:300])

    def no(self, thing, S=T):
        """By itself, and wherever it may stand in a maker."""
        for one in (thing, fn("x", "a", thing), call(thing, UNIT), call(UNIT, thing), box(w=thing),
                    box(v=UNIT, w=thing), part(thing, "w"), pick("w", thing), split(thing), split(thing, w=("x", UNIT)),
                    split(UNIT, v=("x", UNIT), w=("x", thing)), hold(thing, "a")):
            self.assertIs(is_maker(S, one), False, repr(one)[:300])

    def test_each_form(self):
        for maker in EACH:
            self.yes(maker)

    def test_each_form_in_each(self):
        for first, second in itertools.product(EACH, repeat=2):
            for maker in (fn("x", "a", first), call(first, second), box(v=first, w=second), part(first, "w"),
                          pick("w", first), split(first, w=("x", second)), hold(first, "a")):
                self.yes(maker)

    def test_names_that_are_free(self):
        for name in ("x", "abcdefgh", "as", "get", "fn", "call", "split", "hold", "part", "hole"):
            self.yes(get(name))
            self.yes(fn(name, "a", get(name)))
            self.yes(pick(name, UNIT))
            self.yes(("box", ((name, UNIT),)))
            self.yes(part(UNIT, name))
            self.yes(("split", UNIT, ((name, name, get(name)),)))

    def test_names_that_are_none(self):
        for name in ["", "all", "none", "way", "box", "pick", "abcdefghi", "A", "a b"] + other_signs() + no_texts():
            self.no(get(name))
            self.no(fn(name, "a", UNIT))
            self.no(fn("x", name, UNIT))
            self.no(pick(name, UNIT))
            self.no(part(UNIT, name))
            self.no(hold(UNIT, name))
            self.no(("box", ((name, UNIT),)))
            self.no(("split", UNIT, ((name, "x", UNIT),)))
            self.no(("split", UNIT, (("w", name, UNIT),)))

    def test_rows_of_the_telling(self):
        S = told("only = box", "same = only")
        for x in ("only", "same"):
            self.yes(fn("x", x, UNIT), S)
            self.yes(hold(UNIT, x), S)
        for x in ("x", "other", "a", "v"):
            self.no(fn("x", x, UNIT), S)
            self.no(hold(UNIT, x), S)

    def test_words_that_fall_or_stand_twice(self):
        for words in (("w", "v"), ("v", "v"), ("b", "ab"), ("u", "w", "v"), ("u", "v", "v")):
            self.no(("box", tuple((word, UNIT) for word in words)))
            self.no(("split", UNIT, tuple((word, "x", UNIT) for word in words)))
        for words in (("v", "w"), ("ab", "b"), ("u", "v", "w")):
            self.yes(("box", tuple((word, UNIT) for word in words)))
            self.yes(("split", UNIT, tuple((word, "x", UNIT) for word in words)))

    def test_none_to_eight_words(self):
        for many in range(9):
            self.yes(("box", tuple((word, UNIT) for word in "abcdefgh"[:many])))
            self.yes(("split", UNIT, tuple((word, "x", UNIT) for word in "abcdefgh"[:many])))
        for many in (9, 10, 20):
            self.no(("box", tuple((word, UNIT) for word in "abcdefghijklmnopqrst"[:many])))
            self.no(("split", UNIT, tuple((word, "x", UNIT) for word in "abcdefghijklmnopqrst"[:many])))

    def test_lists_in_the_place_of_tuples(self):
        for thing in (["get", "x"], ["box", ()], ("box", []), ("box", [("w", UNIT)]), ("box", (["w", UNIT],)),
                      ("split", UNIT, []), ("split", UNIT, [("w", "x", UNIT)]), ("split", UNIT, (["w", "x", UNIT],)),
                      ["call", UNIT, UNIT], ["fn", "x", "a", UNIT], ["pick", "w", UNIT], ["part", UNIT, "w"],
                      ["hold", UNIT, "a"], ["split", UNIT, ()], ("box", {}), ("box", {"w": UNIT}), ("get", ["x"])):
            self.no(thing)

    def test_too_short_and_too_long(self):
        for maker in EACH:
            self.no(maker[:-1])
            self.no(maker + (UNIT,))
            self.no(maker + ("x",))
        self.no(())
        for pairs in ((("w",),), (("w", UNIT, UNIT),), ((),), ("w", UNIT)):
            self.no(("box", pairs))
        for rows in ((("w", UNIT),), (("w", "x"),), (("w", "x", UNIT, UNIT),), ((),), ("w", "x", UNIT)):
            self.no(("split", UNIT, rows))

    def test_things_in_wrong_places(self):
        for thing in (("fn", "a", UNIT, "x"), ("call", "x", UNIT), ("part", "w", UNIT), ("pick", UNIT, "w"),
                      ("hold", "a", UNIT), ("split", (), UNIT), ("get", UNIT), ("fn", "x", UNIT, "a")):
            self.no(thing)

    def test_other_words_ahead(self):
        for word in ["all", "none", "way", "as", "hole", "", "Get", "get ", "x"] + no_texts():
            for rest in ((), ("x",), (UNIT,), ("x", "a", UNIT), (UNIT, UNIT), ((),), ("w", UNIT)):
                self.no((word,) + rest)

    def test_other_things(self):
        for thing in no_texts() + ["", "get", "box", [], {}, nested("tuple", 95), nested("list", 95)]:
            self.no(thing)

    def test_sixty_and_sixty_one(self):
        for many in (1, 2, 9, 59, 60):
            self.assertEqual(plain_makers.count(of_size(many)), many)
            self.yes(of_size(many))
        for many in (61, 62, 100):
            self.no(of_size(many))
        self.yes(call(of_size(30), of_size(29)))
        self.no(call(of_size(30), of_size(30)))
        self.yes(fn("x", "a", of_size(59)))
        self.no(fn("x", "a", of_size(60)))
        self.yes(split(of_size(20), v=("x", of_size(20)), w=("x", of_size(19))))
        self.no(split(of_size(20), v=("x", of_size(20)), w=("x", of_size(20))))

    def test_twenty_and_twenty_one(self):
        for many in (1, 2, 10, 19, 20):
            self.assertEqual(plain_makers.depth(chain(many)), many)
            self.yes(chain(many))
            self.yes(chain(many, get("x")))
        for many in (21, 22, 30, 40):
            self.no(chain(many))
        self.yes(call(UNIT, chain(19)))
        self.no(call(UNIT, chain(20)))

    def test_one_tuple_in_far_too_many_places(self):
        thing = UNIT
        for turn in range(90):
            thing = ("call", thing, thing)
        # It isn't shown where this fails: that would take far too long.
        self.assertIs(is_maker(T, thing), False)

    def test_by_chance(self):
        chance = random.Random(91)
        for turn in range(2000):
            maker = some_maker(chance, [], chance.randrange(1, 7), "aln")
            answer = plain_makers.count(maker) <= 60 and plain_makers.depth(maker) <= 20
            self.assertIs(is_maker(T, maker), answer)

    def test_nothing_is_changed(self):
        things = no_texts() + [["get", "x"], ("box", [("w", [])]), ("get", {"x": []})]
        before = copy.deepcopy(things)
        for thing in things:
            is_maker(T, thing)
        self.assertEqual(things, before)


class MakerAt(unittest.TestCase):
    def test_the_whole(self):
        for maker in EACH:
            self.assertEqual(maker_at(maker, ()), maker)

    def test_each_form(self):
        a, b, c = get("a"), get("b"), get("c")
        for maker, known in ((fn("x", "a", a), [a]), (call(a, b), [a, b]), (box(u=a, v=b, w=c), [a, b, c]),
                             (part(a, "w"), [a]), (pick("w", a), [a]), (hold(a, "a"), [a]), (split(a), [a]),
                             (split(a, u=("x", b), v=("y", c)), [a, b, c])):
            self.assertEqual([maker_at(maker, (k,)) for k in range(len(known))], known)

    def test_each_place(self):
        chance = random.Random(92)
        for turn in range(300):
            maker = some_maker(chance, [], 6, "aln")
            for place, one, open_to in plain_makers.places(maker):
                self.assertEqual(maker_at(maker, place), one)

    def test_deep_ones(self):
        maker = chain(60, get("x"))
        place = next(place for place, one, open_to in plain_makers.places(maker) if one == get("x"))
        self.assertEqual(len(place), 59)
        self.assertEqual(maker_at(maker, place), get("x"))
