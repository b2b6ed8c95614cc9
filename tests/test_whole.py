"""What the document promises over the whole program."""

import copy
import importlib
import inspect
import random
import unittest

import plain
from coilkind.alike import alike, are_alike, classes, is_alike_paper
from coilkind.bounds import joined, met
from coilkind.cuts import height, over, under
from coilkind.kinding import kind_of
from coilkind.least import least, put_together
from coilkind.makers import is_maker, maker_at
from coilkind.pruning import parting, pruned
from coilkind.roads import end_of, how_many, roads, rows_met, side_of, steps_of
from coilkind.runs import run, thing_of
from coilkind.sayings import filled, holds, is_clash, is_holed
from coilkind.tellings import head_of, is_telling, row_of
from coilkind.texts import read_telling, show_telling
from coilkind.things import fewest, how_many_things, is_of, is_thing, pieces
from coilkind.within import is_within_paper, lies_within, within
from samples import names, some_telling, told
from some_makers import some_maker

INTERFACE = {
    "names": {"is_name": 1},
    "tellings": {"is_telling": 1, "row_of": 2, "head_of": 2},
    "texts": {"show_telling": 1, "read_telling": 1},
    "roads": {"steps_of": 2, "end_of": 3, "side_of": 1, "how_many": 3, "roads": 3, "rows_met": 2},
    "alike": {"alike": 4, "are_alike": 4, "is_alike_paper": 5, "classes": 1},
    "least": {"name_of": 1, "least": 2, "put_together": 2},
    "within": {"within": 4, "lies_within": 4, "is_within_paper": 5},
    "bounds": {"joined": 4, "met": 4},
    "cuts": {"over": 3, "under": 3, "height": 2},
    "things": {"is_thing": 1, "pieces": 1, "is_of": 3, "fewest": 2, "how_many_things": 4},
    "pruning": {"pruned": 2, "parting": 4},
    "sayings": {"is_holed": 1, "filled": 2, "is_clash": 3, "holds": 3},
    "makers": {"is_maker": 2, "maker_at": 2},
    "kinding": {"kind_of": 2},
    "runs": {"run": 2, "thing_of": 1},
}
SORTS = ("all", "none", "way", "box", "pick", "box", "pick")
UNIT = ("box", ())


class Interface(unittest.TestCase):
    def test_names_and_arguments(self):
        for module, functions in INTERFACE.items():
            there = importlib.import_module("coilkind." + module)
            for name, many in functions.items():
                self.assertEqual(len(inspect.signature(getattr(there, name)).parameters), many, name)


def with_rows_named_anew(T, chance):
    """Other names, in another order."""
    called = dict(zip([name for name, head in T], ["z" + name for name in names(len(T))][::-1]))
    rows = [(called[name], plain.with_names(head, called)) for name, head in T]
    chance.shuffle(rows)
    return tuple(rows), called


def with_heads_for_as_rows(T, chance):
    """The heads for which they stand in the place of as rows."""
    return tuple((name, head_of(T, name)) for name, head in T), {name: name for name, head in T}


def with_as_rows_between(T, chance):
    """An as row between each two rows, and each row's name one's own."""
    called = {name: "s" + name for name, head in T}
    rows = [(name, plain.with_names(head, called)) for name, head in T]
    return tuple(rows + [(called[name], ("as", name)) for name in called]), called


def with_some_left_out(T, chance):
    """The rows to which a road leads from the first one's kind, and those to which as rows lead, alone."""
    kept = [T[0][0]]
    for name in kept:
        kept += [x for x in plain_names(dict(T)[name]) if x not in kept]
    return tuple(row for row in T if row[0] in kept), {name: name for name in kept}


def plain_names(head):
    return [x for word, x in head[1]] if head[0] in ("box", "pick") else list(head[1:])


VARIANTS = (with_rows_named_anew, with_heads_for_as_rows, with_as_rows_between, with_some_left_out)


def answers_of_one(T, x):
    """All answers that speak of one kind, but of the names of its rows."""
    found = [steps_of(T, x), [how_many(T, x, n) for n in (0, 1, 2, 7)], roads(T, x, 2), least(T, x), height(T, x),
             [over(T, x, n) for n in (0, 1, 2, 5)], [under(T, x, n) for n in (0, 1, 2, 5)], pruned(T, x),
             [how_many_things(T, x, ["u", "v", "w"], n) for n in (1, 2, 3, 6)],
             [is_of(T, x, thing) for n in (1, 2, 3) for thing in plain.things(("v", "w"), n)]]
    smallest = fewest(T, x)
    return found + [smallest and smallest[0]]


def answers_of_two(T, x, S, y):
    """All answers that speak of two kinds, likewise."""
    first, second, third = alike(T, x, S, y), within(T, x, S, y), parting(T, x, S, y)
    return [first if first[0] == "unlike" else first[0], second if second[0] == "beyond" else second[0],
            third and third[0], are_alike(T, x, S, y), lies_within(T, x, S, y), joined(T, x, S, y), met(T, x, S, y)]


class TheSameKinds(unittest.TestCase):
    def test_answers_of_one(self):
        chance = random.Random(121)
        for turn in range(150):
            T = some_telling(chance, chance.randrange(1, 7), ["v", "w"], SORTS)
            x = T[0][0]
            known = answers_of_one(T, x)
            for variant in VARIANTS:
                S, called = variant(T, chance)
                self.assertTrue(is_telling(S))
                self.assertEqual(answers_of_one(S, called[x]), known, (variant, T))
            self.assertEqual(answers_of_one(least(T, x), "ka"), known)
            self.assertEqual(answers_of_one(read_telling(show_telling(T)), x), known)

    def test_answers_of_two(self):
        chance = random.Random(122)
        for turn in range(300):
            T, S = [some_telling(chance, chance.randrange(1, 7), ["v", "w"], SORTS) for k in range(2)]
            if turn % 2:
                S = T[1:] + T[:1]
            x, y = T[0][0], S[0][0]
            known = answers_of_two(T, x, S, y)
            for variant in VARIANTS:
                (R, called), (Q, others) = variant(T, chance), variant(S, chance)
                self.assertEqual(answers_of_two(R, called[x], Q, others[y]), known, (variant, T, S))
            self.assertEqual(answers_of_two(least(T, x), "ka", least(S, y), "ka"), known)

    def test_sayings(self):
        chance = random.Random(123)
        seen = {"fits": 0, "clash": 0}
        for turn in range(400):
            H = some_telling(chance, chance.randrange(2, 7), ["v", "w"], ("hole", "hole", "box", "pick", "box", "all"))
            if is_holed(H):
                called = [name for name, head in H]
                sayings = [(chance.choice(called), chance.choice(called)) for k in range(3)]
                found = filled(H, sayings)
                seen[found[0]] += 1
                for variant in (with_rows_named_anew, with_as_rows_between):
                    S, others = variant(H, chance)
                    again = filled(S, [(others[a], others[b]) for a, b in sayings])
                    self.assertEqual(again[0], found[0])
                    if found[0] == "fits":
                        rows = {name: plain.row(S, others[name]) for name, head in H if head == ("hole",)}
                        for one, other in zip(found[1:], again[1:]):
                            self.assertEqual({rows[name]: kind for name, kind in one.items()}, other)
        self.assertGreater(min(seen.values()), 50)

    def test_kinds_of_makers(self):
        chance = random.Random(124)
        seen = 0
        for turn in range(400):
            T = told("a = all", "t = s", "s = l") + some_telling(chance, 5, ["v", "w"], SORTS) + told(
                "l = pick cons p nil u", "p = box head a tail l", "u = box")
            maker = some_maker(chance, [], 5, "aslltup")
            found = kind_of(T, maker)
            seen += found[0] == "kind"
            S, called = with_heads_for_as_rows(T, chance)
            self.assertEqual(kind_of(S, maker), found)
            rows = list(T)
            chance.shuffle(rows)
            self.assertEqual(kind_of(tuple(rows), maker), found)
        self.assertGreater(seen, 50)


class HandedInAgain(unittest.TestCase):
    def kinds_told(self, T, x, S, y, chance):
        """Kinds as functions tell them."""
        found = [least(T, x), joined(T, x, S, y), met(T, x, S, y), over(T, x, 3), under(S, y, 3), pruned(T, x)]
        found.append(put_together("way", [T, S]))
        found.append(put_together("box", [("v", T), ("w", S)]))
        H = T + (("hole", ("hole",)),)
        if is_holed(H):
            fits = filled(H, [(x, "hole")])
            found += [fits[1]["hole"], fits[2]["hole"]]
        return found

    def test_kinds(self):
        chance = random.Random(125)
        for turn in range(60):
            T, S = [some_telling(chance, chance.randrange(1, 7), ["v", "w"], SORTS) for k in range(2)]
            x, y = T[0][0], S[0][0]
            kinds = self.kinds_told(T, x, S, y, chance)
            for kind in kinds:
                self.assertTrue(len(kind) > 200 or is_telling(kind))
                self.assertEqual(least(kind, "ka"), kind)
                self.assertEqual(read_telling(show_telling(kind)), kind)
                self.assertEqual(row_of(kind, "ka"), "ka")
                answers_of_one(kind, "ka")
                other = chance.choice(kinds)
                answers_of_two(kind, "ka", other, "ka")
                self.assertIs(holds(told("h = hole", "a = all"), [("h", "a")], {"h": kind}), True)
                # Kinds are alike just where their least tellings are equal.
                self.assertEqual(are_alike(kind, "ka", other, "ka"), kind == other)

    def test_roads_papers_and_things(self):
        chance = random.Random(126)
        for turn in range(100):
            T, S = [some_telling(chance, chance.randrange(1, 7), ["v", "w"], SORTS) for k in range(2)]
            x, y = T[0][0], chance.choice(S)[0]
            for row, road in rows_met(T, x):
                self.assertEqual(end_of(T, x, road), row)
                self.assertIn(side_of(road), (1, -1))
            self.assertIs(is_alike_paper(T, x, T, x, alike(T, x, T, x)[1]), True)
            up = joined(T, x, S, y)
            self.assertIs(is_within_paper(T, x, up, "ka", within(T, x, up, "ka")[1]), True)
            for found in (fewest(T, x), parting(T, x, S, y)):
                if found is not None:
                    self.assertTrue(is_thing(found[1]))
                    self.assertEqual(pieces(found[1]), found[0])
                    self.assertTrue(is_of(T, x, found[1]))
                    # A thing is a maker, and comes to itself, of a kind within that of which it is.
                    if is_maker(T, found[1]):
                        self.assertEqual(run(found[1], 9), (found[1], 0, ("value",)))
                        self.assertEqual(thing_of(found[1]), found[1])
                        kind = kind_of(T, found[1])[1]
                        self.assertTrue(lies_within(kind, "ka", T, x))
                        self.assertEqual(maker_at(found[1], ()), found[1])


class NothingKept(unittest.TestCase):
    T = told("x = pick cons p nil u", "p = box head a tail s", "u = box", "a = all", "s = x", "y = way x y")
    H = told("h = hole", "b = box w h", "p = pick", "s = h")

    def asked_twice(self, ask, change):
        """What is told is changed; asked again, the same is told as at first."""
        found = ask()
        before = copy.deepcopy(found)
        change(found)
        self.assertEqual(ask(), before)

    def test_lists_and_dicts_that_are_told(self):
        for ask in (lambda: steps_of(self.T, "x"), lambda: roads(self.T, "x", 3), lambda: rows_met(self.T, "y"),
                    lambda: classes(self.T)):
            self.asked_twice(ask, lambda found: found.clear())
            self.asked_twice(ask, lambda found: found.append(None))
        self.asked_twice(lambda: classes(self.T), lambda found: found[0].append("x"))
        self.asked_twice(lambda: alike(self.T, "x", self.T, "s"), lambda found: found[1].clear())
        self.asked_twice(lambda: within(self.T, "x", self.T, "s"), lambda found: found[1].append(None))
        self.asked_twice(lambda: filled(self.H, [("b", "h")]), lambda found: found[1].clear())
        self.asked_twice(lambda: filled(self.H, [("b", "h")]), lambda found: found[2].update(h=None, p=None))
        self.asked_twice(lambda: filled(self.H, [("b", "p")]), lambda found: found[1].clear())

    def test_low_and_high_are_unlike_dicts(self):
        found = filled(self.H, [("b", "h"), ("h", "b")])
        self.assertEqual(found[1], found[2])
        found[1].clear()
        self.assertEqual(list(found[2]), ["h"])

    def unchanged(self, ask, *things):
        """What is handed in is the same behind the call; and changed then, it changes nothing of what was told."""
        before = copy.deepcopy(things)
        found = ask(*things)
        self.assertEqual(things, before)
        kept = copy.deepcopy(found)
        for thing in things:
            thing.clear()
        self.assertEqual(found, kept)
        self.assertEqual(ask(*before), kept)

    def test_lists_and_dicts_that_are_handed_in(self):
        T, H = self.T, self.H
        self.unchanged(lambda kinds: put_together("box", kinds), [("v", T), ("w", T)])
        self.unchanged(lambda kinds: put_together("way", kinds), [T, T])
        self.unchanged(lambda paper: is_alike_paper(T, "a", T, "a", paper), [("a", "a")])
        self.unchanged(lambda paper: is_within_paper(T, "u", T, "a", paper), [(1, "u", "a")])
        self.unchanged(lambda words: how_many_things(T, "x", words, 5), ["tail", "cons", "head", "nil"])
        self.unchanged(lambda sayings: filled(H, sayings), [("b", "h"), ("s", "b")])
        self.unchanged(lambda sayings: filled(H, sayings), [("b", "h"), ("s", "p")])
        self.unchanged(lambda sayings, rows: is_clash(H, sayings, rows), [("b", "p")], [("b", "p", ("said",))])
        self.unchanged(lambda sayings, filling: holds(H, sayings, filling), [("b", "h")], {"h": told("x = box w x")})


class TwoHundredRows(unittest.TestCase):
    """Tellings of two hundred rows for each function that takes any."""

    def test_each_function(self):
        chance = random.Random(127)
        for turn in range(4):
            T, S = [some_telling(chance, 200, list("abcde"), SORTS if turn % 2 else ("box", "pick", "way", "pick"))
                    for k in range(2)]
            x, y = T[0][0], S[0][0]
            self.assertTrue(is_telling(T))
            self.assertEqual(read_telling(show_telling(T)), T)
            self.assertEqual(head_of(T, x), dict(T)[row_of(T, x)])
            for n in (0, 1, 12):
                self.assertTrue(lies_within(T, x, over(T, x, n), "ka"))
                self.assertTrue(lies_within(under(T, x, n), "ka", T, x))
            answers_of_two(T, x, S, y)
            self.assertEqual(sum(len(one) for one in classes(T)), 200)
            self.assertEqual(how_many(T, x, 2), (
                sum(side_of(road) == 1 for road in roads(T, x, 2)), sum(side_of(road) == -1 for road in roads(T, x, 2))))
            self.assertEqual(is_of(T, x, UNIT), plain.is_of(T, x, UNIT))
            height(T, x)
            maker = ("fn", "v", x, ("hold", ("get", "v"), x))
            self.assertTrue(is_maker(T, maker))
            self.assertEqual(kind_of(T, maker), ("kind", put_together("way", [least(T, x), least(T, x)])))
            self.assertEqual(how_many_things(pruned(T, x), "ka", list("abcd"), 6), how_many_things(T, x, list("abcd"), 6))
