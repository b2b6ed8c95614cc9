import copy
import itertools
import random
import unittest

import plain
from coilkind.bounds import met
from coilkind.errors import CoilError, TooMany
from coilkind.least import name_of
from coilkind.things import fewest, how_many_things, is_of, is_thing, pieces
from samples import chain_to, doubled, names, nested, no_texts, other_signs, ring, some_telling, told

UNIT = ("box", ())
EACH = (UNIT, ("pick", "v", UNIT), ("box", (("v", UNIT),)), ("box", (("u", UNIT), ("v", ("pick", "v", UNIT)))))
SORTS = told("a = all", "n = none", "w = way a a", "b = box", "p = pick", "s = b")


def within_one_another(many, sort="pick"):
    """So many things within one another."""
    thing = UNIT
    for turn in range(many - 1):
        thing = ("pick", "w", thing) if sort == "pick" else ("box", (("w", thing),))
    return thing


class IsThing(unittest.TestCase):
    def yes(self, thing):
        self.assertIs(is_thing(thing), True, repr(thing)[:200])

    def no(self, thing):
        """By itself, and wherever it may stand in a thing."""
        for one in (thing, ("pick", "w", thing), ("box", (("w", thing),)), ("box", (("v", UNIT), ("w", thing))),
                    ("box", (("v", thing), ("w", UNIT))), ("pick", "v", ("box", (("a", UNIT), ("v", thing))))):
            self.assertIs(is_thing(one), False, repr(one)[:200])

    def test_each_form(self):
        for thing in EACH:
            self.yes(thing)
            self.yes(("pick", "abcdefgh", thing))
            self.yes(("box", (("a", thing), ("ab", UNIT), ("b", thing))))
        self.yes(("box", tuple((name, UNIT) for name in names(200))))
        for word in ("as", "hole", "get", "fn", "call"):
            self.yes(("pick", word, UNIT))
            self.yes(("box", ((word, UNIT),)))

    def test_all_small_ones(self):
        for n in range(1, 5):
            for thing in plain.things(("u", "v", "w"), n):
                self.yes(thing)

    def test_deep_within_one_another(self):
        for many in (2, 8, 33, 100):
            self.yes(within_one_another(many))
            self.yes(within_one_another(many, "box"))

    def test_wrong_deep_within(self):
        for wrong in (None, ("pick", "way", UNIT), ("box", []), ()):
            thing = wrong
            for turn in range(60):
                thing = ("pick", "w", thing)
            self.no(thing)

    def test_one_tuple_in_far_too_many_places(self):
        thing, wrong, mixed = UNIT, ("box", [], ()), (UNIT, UNIT)
        for turn in range(33):
            thing = ("box", (("v", thing), ("w", thing)))
            wrong = ("box", (("v", wrong), ("w", wrong)))
            mixed = (mixed[1], ("box", (("v", mixed[1]), ("w", mixed[0]))))
        # They aren't shown where this fails: that would take as long.
        self.assertIs(is_thing(thing), True)
        self.assertIs(is_thing(mixed[1]), True)
        self.assertIs(is_thing(wrong), False)

    def test_wrong_words(self):
        for words in (("w", "v"), ("v", "v"), ("b", "ab"), ("u", "w", "v"), ("u", "u", "v")):
            self.no(("box", tuple((word, UNIT) for word in words)))
        for word in ("", "all", "none", "way", "box", "pick", "abcdefghi", "A", "a b") + tuple(other_signs()):
            self.no(("pick", word, UNIT))
            self.no(("box", ((word, UNIT),)))
        for word in no_texts():
            self.no(("pick", word, UNIT))
            self.no(("box", ((word, UNIT),)))
            self.no(("box", (("v", UNIT), (word, UNIT))))

    def test_lists_in_the_place_of_tuples(self):
        for thing in (["box", ()], ["pick", "w", UNIT], ("box", []), ("box", [("w", UNIT)]), ("box", (["w", UNIT],)),
                      ("box", {}), ("box", {"w": UNIT}), ("pick", "w", ["box", ()]), ("pick", ["w"], UNIT)):
            self.no(thing)

    def test_too_short_and_too_long(self):
        for thing in ((), ("box",), ("pick",), ("pick", "w"), ("box", (), ()), ("pick", "w", UNIT, UNIT),
                      ("box", ("w", UNIT)), ("box", (("w",),)), ("box", (("w", UNIT, UNIT),)), ("box", ((),)),
                      ("box", UNIT), ("pick", UNIT), ("pick", UNIT, "w"), ("box", ((UNIT, "w"),))):
            self.no(thing)

    def test_other_words_ahead(self):
        for word in ("all", "none", "way", "as", "hole", "get", "", "Box", "box ", "w"):
            self.no((word,))
            self.no((word, ()))
            self.no((word, "w", UNIT))
        for word in no_texts():
            self.no((word, ()))
            self.no((word, "w", UNIT))

    def test_other_things(self):
        for thing in no_texts() + ["", "box", "pick", "a"] + [[], {}, nested("tuple", 99), nested("list", 99)]:
            self.no(thing)
        self.no(told("x = box"))

    def test_none_where_a_thing_ought_to_be(self):
        for thing in (("box", (("w", None),)), ("box", (("v", None), ("w", None))), ("pick", "w", None),
                      ("box", (("v", 1), ("w", True))), ("box", (("v", UNIT), ("w", None)))):
            self.assertIs(is_thing(thing), False)

    def test_nothing_is_changed(self):
        things = no_texts() + [["box", {}], ("box", [["w", UNIT]])]
        before = copy.deepcopy(things)
        for thing in things:
            is_thing(thing)
        self.assertEqual(things, before)


class Pieces(unittest.TestCase):
    def test_each_form(self):
        self.assertEqual([pieces(thing) for thing in EACH], [1, 2, 2, 4])

    def test_all_small_ones(self):
        for n in range(1, 6):
            for thing in plain.things(("v", "w"), n):
                self.assertEqual(pieces(thing), n)

    def test_deep_within_one_another(self):
        for many in (1, 8, 100):
            self.assertEqual(pieces(within_one_another(many)), many)
            self.assertEqual(pieces(within_one_another(many, "box")), many)

    def test_eight_within_one_another_with_many_words(self):
        thing = UNIT
        for turn in range(7):
            thing = ("box", tuple((word, thing) for word in "abcde"))
        self.assertEqual(pieces(thing), sum(5 ** k for k in range(8)))


class IsOf(unittest.TestCase):
    def of(self, T, x, *things):
        for thing in things:
            self.assertIs(is_of(T, x, thing), True, (T, x, thing))

    def not_of(self, T, x, *things):
        for thing in things:
            self.assertIs(is_of(T, x, thing), False, (T, x, thing))

    def test_each_sort(self):
        self.of(SORTS, "a", *EACH)
        for x in "nwp":
            self.not_of(SORTS, x, *EACH)
        for x in "bs":
            self.of(SORTS, x, EACH[0], EACH[2], EACH[3])
            self.not_of(SORTS, x, EACH[1])

    def test_boxes(self):
        T = told("x = box u a v p", "a = all", "p = pick w b", "b = box")
        case = ("pick", "w", UNIT)
        self.of(T, "x", ("box", (("u", UNIT), ("v", case))), ("box", (("u", case), ("v", case))))
        # More words than are asked for, at whatever place.
        self.of(T, "x", ("box", (("a", UNIT), ("u", UNIT), ("uv", UNIT), ("v", case), ("w", UNIT))))
        self.not_of(T, "x", UNIT, ("box", (("u", UNIT),)), ("box", (("v", case),)), ("box", (("v", case), ("w", UNIT))))
        self.not_of(T, "x", ("box", (("u", case), ("v", UNIT))), ("box", (("u", UNIT), ("v", ("pick", "v", UNIT)))))
        self.not_of(T, "x", ("box", (("u", UNIT), ("v", ("pick", "w", case)))))
        self.not_of(T, "x", ("pick", "u", UNIT), ("pick", "v", case))

    def test_picks(self):
        T = told("x = pick u a v p", "a = all", "p = pick w b", "b = box")
        self.of(T, "x", ("pick", "u", UNIT), ("pick", "u", ("pick", "x", UNIT)), ("pick", "v", ("pick", "w", UNIT)))
        self.not_of(T, "x", ("pick", "w", UNIT), ("pick", "v", UNIT), ("pick", "v", ("pick", "u", UNIT)), UNIT,
                    ("box", (("u", UNIT),)))

    def test_parts_and_cases_without_things(self):
        T = told("x = box v n", "y = pick v n w a", "z = box v f", "n = none", "f = way a a", "a = all")
        thing = ("box", (("v", UNIT),))
        self.not_of(T, "x", thing, UNIT)
        self.not_of(T, "z", thing, UNIT)
        self.not_of(T, "y", ("pick", "v", UNIT))
        self.of(T, "y", ("pick", "w", thing))

    def test_through_as_rows(self):
        T = told("s = t", "t = box v u", "u = p", "p = pick w r", "r = b", "b = box")
        thing = ("box", (("v", ("pick", "w", UNIT)),))
        self.of(T, "s", thing)
        self.of(T, "t", thing)
        self.of(T, "u", ("pick", "w", UNIT))
        self.not_of(T, "s", ("box", (("v", UNIT),)), UNIT)

    def test_kinds_that_go_round(self):
        T = told("x = pick cons p nil u", "p = box head a tail x", "u = box", "a = all")
        thing = ("pick", "nil", UNIT)
        for turn in range(40):
            self.of(T, "x", thing)
            self.not_of(T, "x", ("box", (("head", UNIT), ("tail", thing))))
            self.not_of(T, "x", ("pick", "cons", ("box", (("tail", thing),))))
            thing = ("pick", "cons", ("box", (("head", UNIT), ("tail", thing))))
        self.not_of(ring(3), "raa", UNIT, within_one_another(50, "box"))

    def test_told_things_of_a_hundred_pieces(self):
        for sort in ("box", "pick"):
            T = chain_to(100, ("box", ()), lambda name: (sort, (("w", name),)))
            many, thing = fewest(T, "raa")
            self.assertEqual((many, pieces(thing)), (100, 100))
            self.assertTrue(is_thing(thing))
            self.of(T, "raa", thing)
            self.of(T, "rab", thing[1][0][1] if sort == "box" else thing[2])
            self.not_of(chain_to(100, ("pick", ()), lambda name: (sort, (("w", name),))), "raa", thing)

    def test_by_chance(self):
        chance = random.Random(61)
        small = [thing for n in range(1, 5) for thing in plain.things(("u", "v", "w"), n)]
        seen = [0, 0]
        for turn in range(1000):
            T = some_telling(chance, chance.randrange(1, 6), ["u", "v"], ("all", "box", "pick", "box", "pick", "none"))
            x = chance.choice(T)[0]
            S = doubled(chance, T)
            for thing in chance.sample(small, 10):
                known = plain.is_of(T, x, thing)
                seen[known] += 1
                self.assertIs(is_of(T, x, thing), known)
                self.assertIs(is_of(S, x + "s", thing), known)
        self.assertGreater(min(seen), 1000)


class Fewest(unittest.TestCase):
    def so_many(self, T, x, many):
        found = fewest(T, x)
        self.assertIsInstance(found, tuple)
        self.assertEqual(found[0], many, (T, x, found))
        self.assertTrue(is_thing(found[1]))
        self.assertEqual(plain.pieces(found[1]), many)
        self.assertTrue(plain.is_of(T, x, found[1]))

    def refused(self, T, x, many):
        with self.assertRaises(TooMany) as caught:
            fewest(T, x)
        self.assertEqual(caught.exception.many, many)
        self.assertIsInstance(caught.exception, CoilError)

    def test_each_sort(self):
        for x in "abs":
            self.so_many(SORTS, x, 1)
        for x in "nwp":
            self.assertIsNone(fewest(SORTS, x))

    def test_boxes_and_picks(self):
        T = told("x = box u a v p", "a = all", "p = pick v q w b", "q = pick w b", "b = box v a w a", "y = pick v x w q")
        for x, many in (("b", 3), ("q", 4), ("p", 4), ("x", 6), ("y", 5)):
            self.so_many(T, x, many)

    def test_the_fewest_goes_by_another_case(self):
        # The case that ends with fewer steps has more pieces.
        T = told("x = pick v p w b", "b = box a u b u c u d u e u", "u = box", "p = pick v q", "q = pick v r", "r = all")
        self.so_many(T, "x", 4)

    def test_kinds_that_go_round(self):
        T = told("x = pick cons p nil u", "p = box head a tail x", "u = box", "a = all", "y = box tail y",
                 "z = pick more z", "q = pick v y w z")
        for x, many in (("x", 2), ("p", 4), ("u", 1)):
            self.so_many(T, x, many)
        for x in "yzq":
            self.assertIsNone(fewest(T, x))

    def test_none(self):
        T = told("x = box v n", "n = none", "y = box v a w f", "a = all", "f = way a a", "p = pick v x w y",
                 "e = pick", "b = box v e", "s = p")
        for x in "xyfpebsn":
            self.assertIsNone(fewest(T, x))
        for many in (1, 2, 60):
            self.assertIsNone(fewest(ring(many), "raa"))
            self.assertIsNone(fewest(ring(many, lambda name: ("pick", (("w", name),))), "raa"))

    def test_a_hundred_and_more(self):
        def wide(name):
            return ("box", (("v", "end"), ("w", name)))

        for many in (1, 2, 30, 49, 50, 51, 60):
            T = chain_to(many, ("all",), wide) + (("end", ("pick", (("w", "all"),))), ("all", ("box", ())))
            # Each but the last has a piece of its own and two at v.
            pieces_all = 3 * (many - 1) + 1
            (self.so_many if pieces_all <= 100 else self.refused)(T, "raa", pieces_all)
        for many in (99, 100):
            self.so_many(chain_to(many, ("all",)), "raa", many)
        for many in (101, 102, 200):
            self.refused(chain_to(many, ("all",)), "raa", many)
        T = told("x = box v y w z", "s = x", "y = raa", "z = rbb") + chain_to(60, ("all",))
        self.so_many(T, "s", 1 + 60 + 33)

    def test_just_a_hundred_and_one_by_boxes(self):
        # A box with parts of so many pieces that they come to a hundred, and to one more.
        T = chain_to(50, ("all",)) + told("x = box v raa w rab", "y = box u raa v rab w e", "e = box")
        self.so_many(T, "x", 100)
        self.refused(T, "y", 101)
        self.refused(T + told("p = pick w x", "q = pick v y w p"), "p", 101)
        self.refused(T + told("p = pick w x", "q = pick v y w p"), "q", 102)

    def test_many_thousands(self):
        for many, words in ((15, "ab"), (60, "ab"), (60, "abcde"), (200, "abcde")):
            T = chain_to(many, ("all",), lambda name: ("box", tuple((word, name) for word in words)))
            self.refused(T, "raa", sum(len(words) ** k for k in range(many)))

    def test_numbers_of_many_digits(self):
        # What is told of two hundred rows may have more rows, and its things more pieces than Python writes out.
        rows = tuple((name_of(k), ("box", tuple((word, name_of(k + 1)) for word in "abcde"))) for k in range(7000))
        self.refused(rows + ((name_of(7000), ("all",)),), "ka", (5 ** 7001 - 1) // 4)

    def test_by_chance(self):
        chance = random.Random(62)
        seen = {}
        for turn in range(600):
            sorts = ("box", "pick", "box", "pick", "all", "none", "way") if turn % 2 else ("box", "pick")
            T = some_telling(chance, chance.randrange(1, 7), ["v", "w"], sorts)
            S = doubled(chance, T)
            for x, head in T[:2]:
                known = plain.first_thing(("v", "w"), 5, lambda thing: plain.is_of(T, x, thing))
                has = x in plain.rows_with_things(T)
                self.assertEqual(fewest(T, x) is not None, has)
                if has:
                    many = fewest(T, x)[0]
                    self.assertEqual(known, many if many <= 5 else None)
                    self.so_many(T, x, many)
                    self.so_many(S, x + "s", many)
                    seen[many] = seen.get(many, 0) + 1
        self.assertTrue({1, 2, 3, 4, 5} <= set(seen), seen)


class HowMany(unittest.TestCase):
    def count(self, T, x, words, n):
        before = list(words)
        found = how_many_things(T, x, words, n)
        self.assertEqual(words, before)
        return found

    def test_without_words(self):
        for n in range(1, 11):
            for x in "abs":
                self.assertEqual(self.count(SORTS, x, [], n), 1 if n == 1 else 0)
            for x in "nwp":
                self.assertEqual(self.count(SORTS, x, [], n), 0)

    def test_all_things(self):
        for words, most in ((["w"], 10), (["v", "w"], 6), (["u", "v", "w"], 5), (["t", "u", "v", "w"], 4)):
            for n in range(1, most + 1):
                self.assertEqual(self.count(SORTS, "a", words, n), len(plain.things(tuple(words), n)))
        for n in range(1, 11):
            # A pick or a box round what has one piece less.
            self.assertEqual(self.count(SORTS, "a", ["w"], n), 2 ** (n - 1))

    def test_words_that_the_kind_has_and_has_not(self):
        T = told("x = box v a w b", "a = all", "b = box", "p = pick v a w b")
        self.assertEqual(self.count(T, "x", ["v"], 3), 0)
        self.assertEqual(self.count(T, "x", ["v", "w"], 2), 0)
        self.assertEqual(self.count(T, "x", ["w", "v"], 3), 1)
        self.assertEqual(self.count(T, "x", ["w", "u", "v"], 4), 10)
        self.assertEqual(self.count(T, "p", ["v"], 2), 1)
        self.assertEqual(self.count(T, "p", ["w", "v"], 2), 2)
        self.assertEqual(self.count(T, "p", ["u"], 2), 0)

    def test_the_order_of_words(self):
        T = told("x = pick v x w b", "b = box u x", "s = b")
        for n in range(1, 9):
            found = {self.count(T, "s", list(order), n) for order in itertools.permutations(["t", "u", "v", "w"])}
            self.assertEqual(len(found), 1)

    def test_against_all_made_one_by_one(self):
        chance = random.Random(63)
        words = ["t", "u", "v", "w"]
        seen = 0
        for turn in range(300):
            T = some_telling(chance, chance.randrange(1, 11), ["u", "v", "w"], ("box", "pick", "box", "pick", "all"))
            x = chance.choice(T)[0]
            chosen = chance.sample(words, chance.randrange(5))
            for n in range(1, 5 if len(chosen) > 2 else 6):
                known = sum(plain.is_of(T, x, thing) for thing in plain.things(tuple(chosen), n))
                self.assertEqual(self.count(T, x, chosen, n), known)
                self.assertEqual(self.count(doubled(chance, T), x + "s", chosen, n), known)
                seen += known > 5
        self.assertGreater(seen, 50)

    def test_many_thousand_millions(self):
        # All things of four words, counted by boxes and picks: each of the words bears nothing or a thing.
        counts = [0]
        for n in range(1, 11):
            free = [1] + counts[1:]
            boxes = sum(free[a] * free[b] * free[c] * free[n - 1 - a - b - c] for a in range(n) for b in range(n - a)
                        for c in range(n - a - b))
            counts.append(4 * counts[n - 1] + boxes)
            self.assertEqual(self.count(SORTS, "a", ["a", "b", "c", "d"], n), counts[n])
        self.assertGreater(counts[10], 10 ** 8)
        T = told("x = box", "y = pick a x b y c z d q", "z = box a q", "q = all")
        self.assertEqual(self.count(T, "x", list("abcd"), 10) + 4 * counts[9], counts[10])
        found = [self.count(T, "y", list("abcd"), n) for n in range(1, 11)]
        self.assertEqual(found[9], self.count(T, "x", list("abcd"), 9) + found[8] + counts[9]
                         + self.count(T, "z", list("abcd"), 9))

    def test_somewhat_beyond(self):
        self.assertEqual(self.count(SORTS, "a", ["w"], 14), 2 ** 13)
        self.assertGreater(self.count(SORTS, "a", list("abcdef"), 14), 10 ** 15)
        T = chain_to(15, ("all",))
        self.assertEqual(self.count(T, "raa", ["w"], 16), 2)

    def test_a_telling_that_is_told(self):
        T, S = [ring(many, lambda name: ("box", (("w", name),)))[:-1] + ((names(many)[-1], ("all",)),)
                for many in (5, 7)]
        found = met(T, "raa", S, "raa")
        self.assertEqual([self.count(found, "ka", ["w"], n) for n in range(1, 10)], [0] * 6 + [1, 2, 4])
