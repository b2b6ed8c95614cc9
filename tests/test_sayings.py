import copy
import itertools
import random
import unittest

import plain
from coilkind.bounds import joined, met
from coilkind.least import least
from coilkind.sayings import filled, holds, is_clash, is_holed
from coilkind.within import lies_within
from samples import doubled, names, nested, no_texts, small_heads, some_telling, told

ALL, NONE = told("ka = all"), told("ka = none")
HOLE = ("hole",)
EACH = told("h = hole", "a = all", "n = none", "b = box u h w b", "p = pick v h", "s = h", "t = s", "e = box", "f = pick")
PART, CASE = ("part", "w"), ("case", "w")
HOLED = ("hole", "box", "pick", "box", "pick", "all", "none")


def rows_of_holes(many):
    return tuple((name, HOLE) for name in names(many))


def some_holed(chance, many, sorts=HOLED):
    """A holed telling by chance."""
    while True:
        H = some_telling(chance, many, ["v", "w"], sorts)
        if is_holed(H):
            return H


class IsHoled(unittest.TestCase):
    def yes(self, thing):
        self.assertIs(is_holed(thing), True, thing)

    def no(self, thing):
        self.assertIs(is_holed(thing), False, repr(thing)[:200])

    def test_each_head(self):
        self.yes(EACH)
        for order in itertools.permutations(EACH[:5]):
            self.yes(order + EACH[5:])

    def test_without_holes(self):
        for lines in (["x = all"], ["x = none"], ["x = box w x"], ["x = pick w y", "y = x"]):
            self.yes(told(*lines))

    def test_holes_alone(self):
        for many in range(1, 7):
            self.yes(rows_of_holes(many))
        for many in range(7, 13):
            self.no(rows_of_holes(many))

    def test_as_rows_to_holes(self):
        self.yes(told("x = y", "y = z", "z = hole"))
        for many in range(1, 13):
            called = names(many)
            self.yes(tuple((name, ("as", behind)) for name, behind in zip(called, called[1:])) + ((called[-1], HOLE),))

    def test_how_many_rows(self):
        self.no(())
        for many in (11, 12):
            self.yes(tuple((name, ("all",)) for name in names(many)))
            self.yes(rows_of_holes(6) + tuple((name, ("none",)) for name in names(many)[6:]))
        for many in (13, 14, 200):
            self.no(tuple((name, ("all",)) for name in names(many)))
            self.no(rows_of_holes(6) + tuple((name, ("none",)) for name in names(many)[6:]))

    def test_ways(self):
        for lines in (["x = way x x"], ["x = hole", "y = way x x"], ["x = all", "y = way x x"]):
            self.no(told(*lines))

    def test_a_hole_with_more_than_its_word(self):
        for head in (("hole", "h"), ("hole", ()), ("hole", None), ("hole", "hole"), ["hole"], "hole", ("Hole",),
                     ("hole ",), (("hole",),)):
            self.no((("h", head),))
            self.no((("h", HOLE), ("x", head)))

    def test_rings_of_as_rows(self):
        self.no(told("x = x"))
        self.no(told("h = hole", "x = y", "y = x"))
        self.no(told("h = hole", "x = y", "y = z", "z = x"))

    def test_names_without_rows_and_names_twice(self):
        self.no(told("h = hole", "x = y"))
        self.no(told("h = hole", "x = box w y"))
        self.no(told("h = hole", "h = hole"))
        self.no(told("h = hole", "h = all"))
        self.no((("all", HOLE),))
        self.no((("", HOLE),))
        self.no(((1, HOLE),))
        self.no(((["h"], HOLE),))

    def test_wrong_words(self):
        for pairs in ((("w", "h"), ("v", "h")), (("w", "h"), ("w", "h")), (("way", "h"),), [("w", "h")], (("w",),)):
            for sort in ("box", "pick"):
                self.no((("h", HOLE), ("x", (sort, pairs))))

    def test_other_things(self):
        for thing in no_texts() + ["", "hole", ["hole"], [("h", HOLE)], {"h": HOLE}, (("h",),), (("h", HOLE, HOLE),),
                                   (["h", HOLE],), ("hh",), (("h", {}),), (("h", nested("tuple", 95)),)]:
            self.no(thing)
            self.no((("h", HOLE), thing))
            self.no((("h", HOLE), ("x", thing)))

    def test_nothing_is_changed(self):
        things = no_texts() + [[["h", ["hole"]]], (("h", {"a": []}),)]
        before = copy.deepcopy(things)
        for thing in things:
            is_holed(thing)
        self.assertEqual(things, before)


class Checked(unittest.TestCase):
    def holding(self, H, sayings, filling, answer):
        before = copy.deepcopy((sayings, filling))
        self.assertEqual(plain.holds(H, sayings, filling), answer)
        self.assertIs(holds(H, sayings, filling), answer, (H, sayings, filling))
        self.assertEqual((sayings, filling), before)

    def fits(self, H, sayings):
        """Two fillings, by least tellings, by which the sayings hold, the first within the second."""
        before = list(sayings)
        found = filled(H, sayings)
        self.assertEqual(sayings, before)
        self.assertEqual((found[0], len(found)), ("fits", 3), (H, sayings, found))
        holes = [name for name, head in H if head == HOLE]
        for filling in found[1:]:
            self.assertIsInstance(filling, dict)
            self.assertEqual(sorted(filling), sorted(holes))
            for kind in filling.values():
                self.assertEqual(least(kind, kind[0][0]), kind)
            self.assertIs(holds(H, sayings, filling), True)
        for name in holes:
            self.assertTrue(lies_within(found[1][name], "ka", found[2][name], "ka"))
        return found[1:]

    def fits_so(self, H, sayings, low, high):
        found = self.fits(H, sayings)
        self.assertEqual(found, tuple({name: told(*lines) for name, lines in one.items()} for one in (low, high)))

    def clashes(self, H, sayings):
        found = filled(H, sayings)
        self.assertEqual((found[0], len(found)), ("clash", 2), (H, sayings, found))
        rows = found[1]
        self.assertIsInstance(rows, list)
        self.assertTrue(plain.is_clash(H, sayings, rows), (H, sayings, rows))
        self.assertIs(is_clash(H, sayings, rows), True)
        return rows


class Holds(Checked):
    def test_no_sayings(self):
        self.holding(told("h = hole"), [], {"h": ALL}, True)
        self.holding(told("x = all", "n = none"), [], {}, True)

    def test_no_holes(self):
        H = told("a = all", "n = none", "s = a", "b = box v a w n", "c = box v s", "p = pick v n")
        for x, y in itertools.product("ansbcp", repeat=2):
            self.holding(H, [(x, y)], {}, lies_within(H, x, H, y))

    def test_each_sort_in_a_hole(self):
        H = told("h = hole", "b = box v a", "a = all", "n = none", "p = pick")
        kinds = [told("x = all"), told("x = none"), told("x = way x x"), told("x = box v x"), told("x = box"),
                 told("x = pick"), told("x = pick v x"), told("s = x", "x = box v s")]
        for kind in kinds:
            for sayings in ([("h", "b")], [("b", "h")], [("h", "p")], [("p", "h")], [("h", "h")], [("h", "a")],
                            [("n", "h")], [("b", "h"), ("h", "b")], [("h", "n")], [("a", "h")]):
                told_by = {"h": (kind, kind[0][0])}
                answer = all(lies_within(*told_by.get(x, (H, x)), *told_by.get(y, (H, y))) for x, y in sayings)
                self.holding(H, sayings, {"h": kind}, answer)

    def test_ways(self):
        H = told("g = hole", "h = hole", "b = box v g", "c = box v h")
        low, high = told("x = way a n", "a = all", "n = none"), told("x = way n a", "a = all", "n = none")
        self.holding(H, [("g", "h"), ("b", "c")], {"g": low, "h": high}, True)
        self.holding(H, [("h", "g")], {"g": low, "h": high}, False)
        self.holding(H, [("c", "b")], {"g": low, "h": high}, False)
        self.holding(H, [("b", "g")], {"g": high, "h": high}, False)

    def test_names_of_as_rows(self):
        H = told("s = t", "t = h", "h = hole", "q = p", "p = pick v s", "c = pick v n w n", "n = none")
        self.holding(H, [("s", "q")], {"h": told("x = pick v x")}, True)
        self.holding(H, [("q", "t")], {"h": told("x = pick v x")}, True)
        self.holding(H, [("t", "s"), ("h", "t")], {"h": ALL}, True)
        self.holding(H, [("s", "q")], {"h": told("x = pick w x")}, False)
        self.holding(H, [("s", "c")], {"h": told("x = pick w y", "y = n", "n = none")}, True)

    def test_the_first_row_of_a_telling_is_its_kind(self):
        H = told("x = hole", "y = all", "n = none")
        self.holding(H, [("x", "n")], {"x": told("s = y", "x = all", "y = none")}, True)
        self.holding(H, [("y", "x")], {"x": told("s = y", "x = all", "y = none")}, False)

    def test_rows_called_alike_stay_apart(self):
        H = told("ka = hole", "kb = hole", "kc = box v ka w kb")
        filling = {"ka": told("ka = box v kb", "kb = all"), "kb": told("kc = box v ka", "ka = none")}
        self.holding(H, [("kb", "ka")], filling, True)
        self.holding(H, [("ka", "kb")], filling, False)
        self.holding(H, [("kc", "ka")], filling, True)

    def test_by_chance(self):
        chance = random.Random(81)
        seen = [0, 0]
        for turn in range(400):
            H = some_holed(chance, chance.randrange(1, 7))
            called = [name for name, head in H]
            sayings = [(chance.choice(called), chance.choice(called)) for k in range(chance.randrange(4))]
            filling = {name: some_telling(chance, chance.randrange(1, 5), ["v", "w"]) for name, head in H if head == HOLE}
            answer = plain.holds(H, sayings, filling)
            self.holding(H, sayings, filling, answer)
            seen[answer] += bool(sayings)
        self.assertGreater(min(seen), 50)


class Fits(Checked):
    def test_holes_that_no_saying_speaks_of(self):
        self.fits_so(told("h = hole"), [], {"h": ["ka = none"]}, {"h": ["ka = all"]})
        self.fits_so(told("h = hole", "g = hole", "b = box"), [("b", "b")],
                     {"h": ["ka = none"], "g": ["ka = none"]}, {"h": ["ka = all"], "g": ["ka = all"]})
        self.fits_so(told("h = hole", "g = hole"), [("g", "h"), ("h", "h")],
                     {"h": ["ka = none"], "g": ["ka = none"]}, {"h": ["ka = all"], "g": ["ka = all"]})

    def test_no_holes(self):
        self.assertEqual(self.fits(told("x = all"), []), ({}, {}))
        self.assertEqual(self.fits(told("x = all", "n = none"), [("n", "x"), ("x", "x")]), ({}, {}))

    def test_one_bound(self):
        H = told("h = hole", "b = box v a", "a = all")
        self.fits_so(H, [("b", "h")], {"h": ["ka = box v kb", "kb = all"]}, {"h": ["ka = all"]})
        self.fits_so(H, [("h", "b")], {"h": ["ka = none"]}, {"h": ["ka = box v kb", "kb = all"]})
        self.fits_so(H, [("h", "b"), ("b", "h")], {"h": ["ka = box v kb", "kb = all"]},
                     {"h": ["ka = box v kb", "kb = all"]})

    def test_several_bounds(self):
        H = told("h = hole", "b = box v a w n", "c = box u a v n", "a = all", "n = none")
        self.fits_so(H, [("b", "h"), ("c", "h")], {"h": ["ka = box v kb", "kb = all"]}, {"h": ["ka = all"]})
        self.fits_so(H, [("h", "b"), ("h", "c")], {"h": ["ka = none"]},
                     {"h": ["ka = box u kb v kc w kc", "kb = all", "kc = none"]})
        H = told("h = hole", "b = pick v a w n", "c = pick u a v n", "a = all", "n = none")
        self.fits_so(H, [("b", "h"), ("c", "h")], {"h": ["ka = pick u kb v kb w kc", "kb = all", "kc = none"]},
                     {"h": ["ka = all"]})
        self.fits_so(H, [("h", "b"), ("h", "c")], {"h": ["ka = none"]}, {"h": ["ka = pick v kb", "kb = none"]})
        H = told("h = hole", "b = box", "p = pick")
        self.fits_so(H, [("b", "h"), ("p", "h")], {"h": ["ka = all"]}, {"h": ["ka = all"]})
        self.fits_so(H, [("h", "b"), ("h", "p")], {"h": ["ka = none"]}, {"h": ["ka = none"]})

    def test_all_and_none_as_bounds(self):
        H = told("h = hole", "a = all", "n = none", "b = box")
        self.fits_so(H, [("a", "h"), ("b", "h")], {"h": ["ka = all"]}, {"h": ["ka = all"]})
        self.fits_so(H, [("h", "n"), ("h", "b")], {"h": ["ka = none"]}, {"h": ["ka = none"]})
        self.fits_so(H, [("n", "h"), ("h", "a")], {"h": ["ka = none"]}, {"h": ["ka = all"]})
        self.fits_so(H, [("n", "h"), ("b", "h"), ("h", "a")], {"h": ["ka = box"]}, {"h": ["ka = all"]})

    def test_holes_in_bounds(self):
        H = told("g = hole", "h = hole", "b = box v g", "c = box v e", "e = box")
        self.fits_so(H, [("b", "h"), ("e", "g")], {"g": ["ka = box"], "h": ["ka = box v kb", "kb = box"]},
                     {"g": ["ka = all"], "h": ["ka = all"]})
        self.fits_so(H, [("h", "b"), ("c", "h")], {"g": ["ka = box"], "h": ["ka = box v kb", "kb = box"]},
                     {"g": ["ka = all"], "h": ["ka = box v kb", "kb = all"]})
        self.fits_so(H, [("b", "c")], {"g": ["ka = none"], "h": ["ka = none"]}, {"g": ["ka = box"], "h": ["ka = all"]})

    def test_holes_that_stand_within_their_own_bounds(self):
        H = told("h = hole", "b = box w h")
        ring = ["ka = box w ka"]
        self.fits_so(H, [("b", "h")], {"h": ring}, {"h": ["ka = all"]})
        self.fits_so(H, [("h", "b")], {"h": ["ka = none"]}, {"h": ring})
        self.fits_so(H, [("h", "b"), ("b", "h")], {"h": ring}, {"h": ring})
        H = told("h = hole", "p = pick cons b nil u", "b = box head a tail s", "s = h", "u = box", "a = all")
        whole = ["ka = pick cons kb nil kc", "kb = box head kd tail ka", "kc = box", "kd = all"]
        self.fits_so(H, [("p", "h")], {"h": whole}, {"h": ["ka = all"]})
        self.fits_so(H, [("s", "p"), ("p", "s")], {"h": whole}, {"h": whole})

    def test_two_holes_within_one_another(self):
        H = told("g = hole", "h = hole", "b = box w h", "p = pick w g")
        self.fits_so(H, [("b", "g"), ("p", "h")], {"g": ["ka = box w kb", "kb = pick w ka"],
                                                  "h": ["ka = pick w kb", "kb = box w ka"]},
                     {"g": ["ka = all"], "h": ["ka = all"]})
        self.fits_so(H, [("g", "b"), ("h", "p")], {"g": ["ka = none"], "h": ["ka = none"]},
                     {"g": ["ka = box w kb", "kb = pick w ka"], "h": ["ka = pick w kb", "kb = box w ka"]})

    def test_chains_of_holes(self):
        called = names(6)
        H = rows_of_holes(6) + told("b = box v e", "e = box", "t = box v a", "a = all")
        links = list(zip(called, called[1:]))
        for order in (links, links[::-1], links[2:] + links[:2]):
            low, high = self.fits(H, order + [("b", called[0])])
            self.assertEqual(low, {name: told("ka = box v kb", "kb = box") for name in called})
            self.assertEqual(high, {name: ALL for name in called})
            low, high = self.fits(H, [(called[5], "t"), ("b", called[3])] + order)
            self.assertEqual(low, {name: NONE if name < called[3] else told("ka = box v kb", "kb = box")
                                   for name in called})
            self.assertEqual(high, {name: told("ka = box v kb", "kb = all") for name in called})

    def test_the_same_hole_twice_in_a_head(self):
        H = told("h = hole", "b = box v h w h", "c = box v e w p", "e = box v n", "p = box w n", "n = none")
        self.fits_so(H, [("c", "b")], {"h": ["ka = box"]}, {"h": ["ka = all"]})
        self.fits_so(H, [("b", "c")], {"h": ["ka = none"]}, {"h": ["ka = box v kb w kb", "kb = none"]})

    def test_holes_on_both_sides(self):
        H = told("g = hole", "h = hole", "b = pick v g w h", "c = pick v h w g x e", "e = box")
        self.fits_so(H, [("b", "c"), ("e", "g")], {"g": ["ka = box"], "h": ["ka = box"]},
                     {"g": ["ka = all"], "h": ["ka = all"]})
        self.fits_so(H, [("b", "c"), ("g", "e")], {"g": ["ka = none"], "h": ["ka = none"]},
                     {"g": ["ka = box"], "h": ["ka = box"]})

    def test_what_is_told_is_the_askers_own(self):
        H = told("h = hole", "g = hole", "b = box")
        first = filled(H, [("b", "h")])
        before = copy.deepcopy(first)
        first[1].clear()
        first[2]["h"] = NONE
        self.assertEqual(filled(H, [("b", "h")]), before)

    def test_many_rows_in_a_filling(self):
        # Rounds of unlike lengths under one hole, which are joined there, or met.
        H = told("h = hole", "a = box v n w b", "b = box v e w a", "c = box v n w d", "d = box v e w f",
                 "f = box v e w c", "n = none", "e = all")
        low, high = self.fits(H, [("a", "h"), ("c", "h")])
        self.assertEqual(low["h"], joined(H[1:], "a", H[1:], "c"))
        self.assertEqual(len(low["h"]), 6 + 2)
        low, high = self.fits(H, [("h", "a"), ("h", "c")])
        self.assertEqual(high["h"], met(H[1:], "a", H[1:], "c"))
        self.assertEqual(len(high["h"]), 6 + 2)

    def test_what_is_told_may_have_very_many_rows(self):
        # Behind each v the hole begins anew, so what stands there is told by the last seven steps: v or w each.
        called = names(8)
        rows = [(name, ("box", (("v", behind), ("w", behind), ("x", "nil")))) for name, behind in zip(
            called[1:], called[2:] + ["z"])]
        rows[-1] = (called[7], ("box", (("v", "z"), ("w", "z"), ("x", "any"))))
        H = told("h = hole", "raa = box v h w raa x nil", "z = box v z w z x nil", "any = all", "nil = none") + tuple(rows)
        self.assertTrue(is_holed(H))
        self.assertEqual(len(H), 12)
        sayings = [("raa", "h"), ("rab", "h")]
        low, high = self.fits(H, sayings)
        self.assertEqual(len(low["h"]), 2 ** 7 + 2)
        self.assertEqual(high, {"h": ALL})
        self.assertIs(holds(H, sayings, low), True)
        self.assertIs(holds(H, sayings + [("h", "raa")], low), False)
        self.clashes(H, sayings + [("h", "raa")])


class Clashes(Checked):
    def test_said(self):
        H = told("h = hole", "b = box", "p = pick", "s = b", "a = all", "n = none", "c = box w a")
        self.assertEqual(self.clashes(H, [("b", "p")]), [("b", "p", ("said",))])
        self.assertEqual(self.clashes(H, [("h", "b"), ("s", "p")]), [("b", "p", ("said",))])
        self.assertEqual(self.clashes(H, [("s", "c")]), [("b", "c", ("said",))])
        self.assertEqual(self.clashes(H, [("a", "c")]), [("a", "c", ("said",))])
        self.assertEqual(self.clashes(H, [("c", "n")]), [("c", "n", ("said",))])

    def test_step(self):
        H = told("b = box v p w p", "c = box w q", "p = pick w a", "q = pick w n", "a = all", "n = none")
        self.assertEqual(self.clashes(H, [("b", "c")]), [
            ("b", "c", ("said",)), ("p", "q", ("step", 0, PART)), ("a", "n", ("step", 1, CASE))])

    def test_through(self):
        H = told("h = hole", "b = box", "p = pick", "s = h")
        rows = self.clashes(H, [("b", "h"), ("s", "p")])
        self.assertEqual(len(rows), 3)
        self.assertEqual(rows[2], ("b", "p", ("through", 0, 1)))

    def test_through_several_holes(self):
        called = names(6)
        H = rows_of_holes(6) + told("b = box", "p = pick")
        links = list(zip(called, called[1:]))
        for order in (links, links[::-1]):
            rows = self.clashes(H, [("b", called[0])] + order + [(called[5], "p")])
            self.assertEqual(len(rows), 7 + 6)
            self.clashes(H, [(called[5], "p"), ("b", called[0])] + order)

    def test_all_reasons_together(self):
        H = told("g = hole", "h = hole", "b = box v g", "c = box v h", "e = box", "p = pick")
        rows = self.clashes(H, [("b", "c"), ("e", "g"), ("h", "p")])
        self.assertEqual({why[0] for a, b, why in rows}, {"said", "step", "through"})
        self.assertEqual(rows[-1][:2], ("e", "p"))

    def test_rings(self):
        # What is joined round and round comes to a bad end at last.
        H = told("h = hole", "b = box w h", "c = box w d", "d = box w f", "f = box w p", "p = pick")
        rows = self.clashes(H, [("b", "h"), ("h", "c")])
        self.assertEqual(rows[-1][:2], ("b", "p"))
        H = told("h = hole", "x = box v h w y", "y = box v e w x", "z = box v p w z", "p = pick", "e = pick", "u = box")
        self.clashes(H, [("x", "z"), ("u", "h")])

    def test_only_what_is_needed_is_told(self):
        H = told("g = hole", "h = hole", "b = box v e", "e = box", "p = pick", "t = box")
        rows = self.clashes(H, [("b", "g"), ("b", "t"), ("g", "t"), ("e", "h"), ("h", "p")])
        self.assertEqual(rows, [("e", "h", ("said",)), ("h", "p", ("said",)), ("e", "p", ("through", 0, 1))])

    def test_a_told_list_is_the_askers_own(self):
        H = told("h = hole", "b = box", "p = pick")
        first = filled(H, [("b", "p")])[1]
        first.clear()
        self.assertEqual(filled(H, [("b", "p")]), ("clash", [("b", "p", ("said",))]))


class IsClash(Checked):
    H = told("s = h", "h = hole", "g = hole", "b = box v p w g", "c = box v h w h", "p = pick", "e = box v e", "t = b",
             "a = all", "n = none", "q = pick v p w p", "r = pick v e w p", "o = q")
    SAYINGS = [("t", "c"), ("s", "e"), ("q", "r"), ("h", "h"), ("o", "g")]
    ROWS = [("b", "c", ("said",)), ("h", "e", ("said",)), ("p", "h", ("step", 0, ("part", "v"))),
            ("p", "e", ("through", 2, 1))]

    def look(self, rows, answer, sayings=None):
        sayings = self.SAYINGS if sayings is None else sayings
        before = copy.deepcopy((rows, sayings))
        self.assertEqual(plain.is_clash(self.H, sayings, rows), answer, rows)
        self.assertIs(is_clash(self.H, sayings, rows), answer, rows)
        self.assertEqual((rows, sayings), before)

    def test_right_ones(self):
        self.look(self.ROWS, True)
        self.look([self.ROWS[1], self.ROWS[0], ("p", "h", ("step", 1, ("part", "v"))), ("p", "e", ("through", 2, 0))],
                  True)
        self.look([("q", "r", ("said",)), ("p", "e", ("step", 0, ("case", "v")))], True)

    def test_rows_more(self):
        for row in (("h", "h", ("said",)), ("q", "g", ("said",)), ("b", "c", ("said",))):
            self.look([row] + [(a, b, moved(why)) for a, b, why in self.ROWS], True)
        self.look(self.ROWS[:3] + [("g", "h", ("step", 0, ("part", "w")))] + self.ROWS[3:], True)
        self.look(self.ROWS + self.ROWS[3:], True)
        # What follows through one hole with itself.
        self.look([("h", "h", ("said",)), ("h", "h", ("through", 0, 0))] + [
            (a, b, moved(moved(why))) for a, b, why in self.ROWS], True)

    def test_no_rows(self):
        self.look([], False)

    def test_a_row_left_out(self):
        for at in range(len(self.ROWS)):
            self.look(self.ROWS[:at] + self.ROWS[at + 1:], False)

    def test_rows_exchanged(self):
        for order in itertools.permutations(self.ROWS):
            self.look(list(order), list(order) == self.ROWS)

    def test_numbers_that_are_not_ahead(self):
        for number in (-4, -2, -1, 2, 3, 4, 10 ** 30, -10 ** 30):
            self.look(self.ROWS[:2] + [("p", "h", ("step", number, ("part", "v")))] + self.ROWS[3:], False)
        for j, k in itertools.product(range(-5, 6), repeat=2):
            self.look(self.ROWS[:3] + [("p", "e", ("through", j, k))], (j, k) == (2, 1))

    def test_rows_that_follow_from_themselves(self):
        bad = ("q", "e", ("said",))
        sayings = [("q", "e"), ("e", "e"), ("h", "h")]
        for row in (("e", "e", ("step", 0, ("part", "v"))), ("h", "h", ("through", 0, 0))):
            self.look([row, bad], False, sayings)
            self.look([row[:2] + (("said",),), bad], True, sayings)
        for row in (("e", "e", ("step", 1, ("part", "v"))), ("h", "h", ("through", 1, 1)), ("h", "h", ("through", 0, 1))):
            self.look([row[:2] + (("said",),), row, bad], False, sayings)
            self.look([row, row[:2] + (("said",),), bad], False, sayings)

    def test_wrong_steps(self):
        for step in (("part", "w"), ("part", "u"), ("case", "v"), ("from",), ("to",), ("part", "")):
            self.look(self.ROWS[:2] + [("p", "h", ("step", 0, step))] + self.ROWS[3:], False)
        # A step of the first alone, which isn't looked at.
        self.look([("b", "c", ("said",)), ("p", "h", ("step", 0, ("part", "x")))], False)

    def test_steps_behind_what_is_settled_or_bad_or_a_hole(self):
        self.look([("h", "e", ("said",)), ("p", "e", ("step", 0, ("part", "v")))], False)
        self.look([("e", "a", ("said",)), ("e", "a", ("step", 0, ("part", "v"))), ("q", "r", ("said",)),
                   ("p", "e", ("step", 2, ("case", "v")))], False, [("e", "a"), ("q", "r")])
        self.look([("q", "p", ("said",)), ("p", "p", ("step", 0, ("case", "v"))), ("q", "p", ("said",))], False,
                  [("q", "p")])
        self.look([("q", "p", ("said",)), ("q", "p", ("said",))], True, [("q", "p")])

    def test_wrong_names(self):
        for name in ("p", "h", "g", "e", "s", "t", "zz", "", "all", "A b"):
            for at, (a, b, why) in enumerate(self.ROWS):
                if name != a:
                    self.look(self.ROWS[:at] + [(name, b, why)] + self.ROWS[at + 1:], False)
                if name != b:
                    self.look(self.ROWS[:at] + [(a, name, why)] + self.ROWS[at + 1:], False)

    def test_names_of_as_rows(self):
        self.look([("t", "c", ("said",))] + self.ROWS[1:], False)
        self.look([("t", "p", ("said",))], False, [("t", "p")])
        self.look([("b", "p", ("said",))], True, [("t", "p")])
        self.look(self.ROWS[:1] + [("s", "e", ("said",))] + self.ROWS[2:], False)

    def test_what_nobody_says(self):
        self.look([("p", "e", ("said",))], False)
        self.look(self.ROWS, False, [("t", "c")])
        self.look(self.ROWS, False, [("s", "e")])
        self.look(self.ROWS, False, [])
        self.look(self.ROWS, False, [("c", "t"), ("e", "s")])

    def test_through_what_is_no_hole(self):
        self.look([("b", "e", ("said",)), ("e", "p", ("said",)), ("b", "p", ("through", 0, 1))], False,
                  [("b", "e"), ("e", "p")])
        self.look([("q", "g", ("said",)), ("h", "e", ("said",)), ("q", "e", ("through", 0, 1))], False)

    def test_a_last_row_that_is_not_bad(self):
        for many in (1, 2, 3):
            self.look(self.ROWS[:many], False)
        self.look(self.ROWS + [("h", "e", ("said",))], False)
        self.look([("q", "r", ("said",))], False)
        for x, y in (("n", "p"), ("e", "a"), ("e", "e"), ("n", "n")):
            self.look([(x, y, ("said",))], False, [(x, y)])

    def test_bad_rows_of_holes(self):
        for x, y in (("h", "p"), ("p", "h"), ("h", "g"), ("a", "h"), ("h", "n")):
            self.look([(x, y, ("said",))], False, [(x, y)])

    def test_a_bad_row_ahead(self):
        self.look([("p", "e", ("said",))] + [(a, b, moved(why)) for a, b, why in self.ROWS], True,
                  self.SAYINGS + [("p", "e")])

    def test_by_chance(self):
        chance = random.Random(82)
        seen = [0, 0]
        heads = [name for name, head in self.H]
        for turn in range(4000):
            rows = list(self.ROWS)
            at = chance.randrange(4)
            a, b, why = rows[at]
            choice = chance.randrange(4)
            if choice == 0:
                a = chance.choice(heads)
            elif choice == 1:
                b = chance.choice(heads)
            elif choice == 2:
                why = chance.choice([("said",), ("step", chance.randrange(-1, 4), ("part", chance.choice("vwx"))),
                                     ("through", chance.randrange(-1, 4), chance.randrange(-1, 4))])
            rows[at] = (a, b, why)
            answer = plain.is_clash(self.H, self.SAYINGS, rows)
            seen[answer] += 1
            self.look(rows, answer)
        self.assertGreater(min(seen), 100)


def moved(why):
    """A reason with each number raised by one."""
    if why[0] == "step":
        return ("step", why[1] + 1, why[2])
    return (why[0],) + tuple(k + 1 for k in why[1:])


class ByChance(Checked):
    def test_fits_or_clashes(self):
        chance = random.Random(83)
        heads = small_heads("xy", ["v", "w"])
        seen = {"fits": 0, "clash": 0, "held": 0, "between": 0}
        for turn in range(1500):
            H = some_holed(chance, chance.randrange(2, 9))
            called = [name for name, head in H]
            sayings = [(chance.choice(called), chance.choice(called)) for k in range(chance.randrange(1, 5))]
            found = filled(H, sayings)
            seen[found[0]] += 1
            holes = [name for name, head in H if head == HOLE]
            if found[0] == "clash":
                self.clashes(H, sayings)
            else:
                low, high = self.fits(H, sayings)
                self.assertTrue(plain.holds(H, sayings, low))
                self.assertTrue(plain.holds(H, sayings, high))
            for k in range(15):
                filling = {name: tuple(zip("xy", (chance.choice(heads), chance.choice(heads)))) for name in holes}
                if found[0] == "fits" and k < 10:
                    # Those near to what is told hold more often.
                    for name in holes:
                        if chance.randrange(2):
                            filling[name] = chance.choice([low, high])[name]
                if holds(H, sayings, filling):
                    self.assertEqual(found[0], "fits")
                    seen["held"] += 1
                    for name in holes:
                        kind = filling[name]
                        self.assertTrue(lies_within(low[name], "ka", kind, kind[0][0]))
                        self.assertTrue(lies_within(kind, kind[0][0], high[name], "ka"))
                        seen["between"] += kind not in (low[name], high[name], ALL, NONE)
        self.assertGreater(min(seen.values()), 300, seen)

    def test_what_is_joined_and_met(self):
        # One hole above two kinds is filled by what they are joined, at least; below them by what they are met.
        chance = random.Random(84)
        for turn in range(300):
            T = some_telling(chance, 6, ["v", "w"], ("box", "pick", "box", "pick", "all", "none"))
            x, y = chance.choice(T)[0], chance.choice(T)[0]
            H = T + (("h", HOLE),)
            self.assertEqual(filled(H, [(x, "h"), (y, "h")]), ("fits", {"h": joined(T, x, T, y)}, {"h": ALL}))
            self.assertEqual(filled(H, [("h", y), ("h", x)]), ("fits", {"h": NONE}, {"h": met(T, x, T, y)}))

    def test_the_order_of_rows_and_sayings(self):
        chance = random.Random(85)
        for turn in range(300):
            H = some_holed(chance, 6)
            called = [name for name, head in H]
            sayings = [(chance.choice(called), chance.choice(called)) for k in range(4)]
            found = filled(H, sayings)
            rows, turned = list(H), list(sayings)
            chance.shuffle(rows)
            chance.shuffle(turned)
            again = filled(tuple(rows), turned + sayings[:1])
            self.assertEqual(again[0], found[0])
            if found[0] == "fits":
                self.assertEqual(again, found)

    def test_kinds_without_holes(self):
        chance = random.Random(86)
        for turn in range(300):
            T = some_telling(chance, 6, ["v", "w"], ("box", "pick", "box", "pick", "all", "none"))
            S = doubled(chance, T)
            x, y = chance.choice(T)[0], chance.choice(T)[0]
            inside = lies_within(T, x, T, y)
            self.assertEqual(filled(T, [(x, y)])[0] == "fits", inside)
            self.assertEqual(filled(S, [(x + "s", y + "a")])[0] == "fits", inside)
            self.assertIs(holds(T, [(x, y)], {}), inside)
            if not inside:
                self.clashes(T, [(x, y)])
