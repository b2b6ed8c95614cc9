import itertools
import random
import unittest

import plain
from coilkind.alike import are_alike
from coilkind.within import is_within_paper, lies_within, within
from samples import chain_to, doubled, names, ring, small_heads, some_telling, told, with_one_changed

FROM, TO = ("from",), ("to",)
V, W = ("part", "v"), ("part", "w")
SORTS = told("a = all", "n = none", "w = way a a", "b = box", "p = pick")


class Checked(unittest.TestCase):
    def lies(self, T, x, S, y):
        word, paper = within(T, x, S, y)
        self.assertEqual(word, "within", (T, x, S, y))
        self.assertIsInstance(paper, list)
        self.assertIs(is_within_paper(T, x, S, y, paper), True)
        self.assertIs(lies_within(T, x, S, y), True)
        return paper

    def beyond(self, T, x, S, y, road):
        self.assertEqual(within(T, x, S, y), ("beyond", road))
        self.assertIs(lies_within(T, x, S, y), False)

    def just_so(self, T, x, S, y, road=()):
        """The first lies within the second, but not the other way about."""
        self.lies(T, x, S, y)
        self.beyond(S, y, T, x, road)


class Within(Checked):
    def test_all_above_and_none_below(self):
        for name, head in SORTS:
            self.lies(SORTS, name, SORTS, "a")
            self.lies(SORTS, "n", SORTS, name)

    def test_unlike_sorts(self):
        for x, y in itertools.permutations("anwbp", 2):
            if x != "n" and y != "a":
                self.beyond(SORTS, x, SORTS, y, ())

    def test_a_kind_within_itself(self):
        for name, head in SORTS:
            self.lies(SORTS, name, SORTS, name)
        chance = random.Random(21)
        for turn in range(200):
            T = some_telling(chance, chance.randrange(1, 7), ["u", "v", "w"])
            S = doubled(chance, T)
            for x, head in T:
                self.lies(T, x, T, x)
                self.lies(T, x, S, x + "s")
                self.lies(S, x + "b", T, x)

    def test_through_as_rows(self):
        T = told("s = t", "t = x", "x = box w u", "u = n", "n = none")
        S = told("a = b", "b = box w c", "c = d", "d = all")
        self.just_so(T, "s", S, "a", (W,))
        self.just_so(T, "t", S, "b", (W,))
        self.lies(T, "u", S, "a")
        self.lies(T, "s", S, "c")

    def test_boxes_with_more_words_lie_within_those_with_fewer(self):
        for less in range(4):
            for few in itertools.combinations("uvw", less):
                for more in range(4):
                    for many in itertools.combinations("uvw", more):
                        T = told("x = box " + " ".join(f"{word} a" for word in many), "a = all")
                        S = told("x = box " + " ".join(f"{word} a" for word in few), "a = all")
                        if set(few) <= set(many):
                            self.lies(T, "x", S, "x")
                        else:
                            self.beyond(T, "x", S, "x", ())

    def test_picks_with_fewer_words_lie_within_those_with_more(self):
        for less in range(4):
            for few in itertools.combinations("uvw", less):
                for more in range(4):
                    for many in itertools.combinations("uvw", more):
                        T = told("x = pick " + " ".join(f"{word} a" for word in few), "a = all")
                        S = told("x = pick " + " ".join(f"{word} a" for word in many), "a = all")
                        if set(few) <= set(many):
                            self.lies(T, "x", S, "x")
                        else:
                            self.beyond(T, "x", S, "x", ())

    def test_only_words_of_both_are_looked_at(self):
        T = told("x = box v a w n", "a = all", "n = none")
        S = told("x = box w b", "b = box")
        self.lies(T, "x", S, "x")
        self.beyond(told("x = box v n w a", "a = all", "n = none"), "x", S, "x", (W,))
        T = told("x = pick w b", "b = box")
        S = told("x = pick v n w a", "a = all", "n = none")
        self.lies(T, "x", S, "x")
        self.beyond(T, "x", told("x = pick v a w n", "a = all", "n = none"), "x", (("case", "w"),))

    def test_parts_and_cases_by_their_kinds(self):
        for sort, word in (("box", "part"), ("pick", "case")):
            T = told(f"x = {sort} w n", "n = none", f"y = {sort} w b", "b = box", f"z = {sort} w a", "a = all")
            self.just_so(T, "x", T, "y", ((word, "w"),))
            self.just_so(T, "y", T, "z", ((word, "w"),))
            self.just_so(T, "x", T, "z", ((word, "w"),))

    def test_ways_turn_their_first_kind_about(self):
        T = told("na = way n a", "an = way a n", "aa = way a a", "nn = way n n", "a = all", "n = none")
        self.just_so(T, "an", T, "na", (FROM,))
        self.just_so(T, "an", T, "aa", (TO,))
        self.just_so(T, "an", T, "nn", (FROM,))
        self.just_so(T, "aa", T, "na", (FROM,))
        self.just_so(T, "nn", T, "na", (TO,))
        self.beyond(T, "aa", T, "nn", (TO,))
        self.beyond(T, "nn", T, "aa", (FROM,))

    def test_turned_about_twice(self):
        T = told("x = way y a", "y = way n a", "a = all", "n = none", "p = way q a", "q = way a a")
        self.just_so(T, "x", T, "p", (FROM, FROM))
        T = told("x = way y a", "y = way b a", "b = box v a w a", "a = all",
                 "p = way q a", "q = way c a", "c = box v a")
        self.just_so(T, "x", T, "p", (FROM, FROM))

    def test_boxes_and_picks_turned_about(self):
        for more, less in (("box v a w a", "box v a"), ("pick v a", "pick v a w a")):
            T = told("x = way p a", "y = way q a", f"p = {more}", f"q = {less}", "a = all")
            self.just_so(T, "p", T, "q")
            self.just_so(T, "y", T, "x", (FROM,))

    def test_words_looked_at_where_turned_about(self):
        # p has more words, but only the word v of both is looked at, n and a by it turned about.
        T = told("x = way q a", "y = way p a", "p = box v n w a", "q = box v a", "r = box v n", "z = way r a",
                 "a = all", "n = none")
        self.lies(T, "x", T, "y")
        self.lies(T, "x", T, "z")
        self.lies(T, "z", T, "y")
        self.beyond(T, "y", T, "z", (FROM,))
        self.beyond(T, "z", T, "x", (FROM, V))

    def test_rings_against_rings(self):
        for n, m in itertools.product((1, 2, 3, 4, 5), repeat=2):
            self.lies(ring(n), "raa", ring(m), "raa")
            wide = ring(n, lambda name: ("box", (("v", name), ("w", name))))
            self.just_so(wide, "raa", ring(m), "raa")
            picks = ring(n, lambda name: ("pick", (("v", name), ("w", name))))
            self.just_so(ring(m, lambda name: ("pick", (("w", name),))), "raa", picks, "raa")
            ways = ring(n, lambda name: ("way", name, name))
            self.lies(ways, "raa", ring(m, lambda name: ("way", name, name)), "raa")

    def test_rings_that_part_late(self):
        for n, m in ((2, 3), (3, 4), (5, 7), (8, 9)):
            T = tuple((name, ("box", head[1] if k else (("v", name),) + head[1]))
                      for k, (name, head) in enumerate(ring(n)))
            S = tuple((name, ("box", head[1] if k else (("v", "end"),) + head[1]))
                      for k, (name, head) in enumerate(ring(m))) + (("end", ("all",)),)
            found = within(T, "raa", S, "raa")
            self.assertEqual(found, ("beyond", plain.bad_road(T, "raa", S, "raa", m)))
            self.assertEqual(found, ("beyond", (W,) * m))

    def test_rings_with_ends(self):
        short = told("x = pick cons p nil u", "p = box head n tail x", "u = box", "n = none")
        long = told("x = pick cons p nil u", "p = box head n tail x", "u = box", "n = all")
        self.just_so(short, "x", long, "x", (("case", "cons"), ("part", "head")))
        even = told("x = pick cons p nil u", "p = box head a tail y", "y = pick cons q", "q = box head a tail x",
                    "u = box", "a = all")
        self.just_so(even, "x", long, "x", (("case", "cons"), ("part", "tail")))
        self.beyond(short, "x", even, "x", (("case", "cons"), ("part", "tail")))

    def test_ways_that_go_round(self):
        T = told("x = way x a", "a = all")
        self.lies(T, "x", T, "x")
        S = told("x = way y a", "y = way x n", "a = all", "n = none")
        self.just_so(T, "x", S, "x", (FROM, TO))
        # A round of three is on both sides.
        S = told("x = way y a", "y = way z a", "z = way x n", "a = all", "n = none")
        self.beyond(T, "x", S, "x", (FROM, FROM, TO))
        self.beyond(S, "x", T, "x", (FROM,) * 5 + (TO,))

    def test_the_least_of_several(self):
        T = told("x = box u a v a w a", "a = all", "y = box u b v b w b", "b = box", "z = box u a v b w b",
                 "c = box u b v b w a")
        self.beyond(T, "x", T, "y", (("part", "u"),))
        self.beyond(T, "x", T, "c", (("part", "u"),))
        self.beyond(T, "x", T, "z", (V,))
        self.beyond(T, "z", T, "c", (("part", "u"),))
        self.beyond(T, "c", T, "y", (W,))

    def test_the_shorter_ahead(self):
        T = told("x = way y a", "y = way a z", "z = box", "a = all")
        S = told("x = way y n", "y = way a q", "q = none", "a = all", "n = none")
        self.beyond(T, "x", S, "x", (TO,))
        S = told("x = way y a", "y = way a q", "q = pick", "a = all")
        self.beyond(T, "x", S, "x", (FROM, TO))

    def test_chains(self):
        for many in (2, 3, 50, 200):
            low, high = chain_to(many, ("none",)), chain_to(many, ("all",))
            self.just_so(low, "raa", high, "raa", (W,) * (many - 1))
            self.just_so(ring(many), "raa", high, "raa", (W,) * (many - 1))
            self.just_so(low, "raa", ring(many), "raa", (W,) * (many - 1))

            def turned(name):
                return ("way", name, "end")

            low = chain_to(many, ("none",), turned) + (("end", ("all",)),)
            high = chain_to(many, ("all",), turned) + (("end", ("all",)),)
            pair = (low, high) if many % 2 else (high, low)
            self.just_so(pair[0], "raa", pair[1], "raa", (FROM,) * (many - 1))


class ByChance(Checked):
    def test_two_rows(self):
        chance = random.Random(22)
        heads = small_heads("xy", ["v", "w"])
        seen = {"within": 0, "beyond": 0}
        for turn in range(4000):
            T, S = [tuple(zip("xy", (chance.choice(heads), chance.choice(heads)))) for k in range(2)]
            road = plain.bad_road(T, "x", S, "x", 8)
            seen[within(T, "x", S, "x")[0]] += 1
            if road is None:
                self.assertTrue(plain.is_within_paper(T, "x", S, "x", self.lies(T, "x", S, "x")))
            else:
                self.beyond(T, "x", S, "x", road)
        self.assertGreater(min(seen.values()), 500)

    def test_more_rows(self):
        chance = random.Random(23)
        seen = {"within": 0, "beyond": 0}
        for turn in range(300):
            sorts = ("way", "way", "box", "all", "none") if turn % 2 else ("pick", "box", "way")
            T = some_telling(chance, chance.randrange(2, 5), ["v", "w"], sorts)
            S = with_one_changed(chance, doubled(chance, T), ["v", "w"], sorts)
            x = chance.choice(T)[0]
            y = x + "a"
            found = within(T, x, S, y)
            seen[found[0]] += 1
            upheld = (1, plain.row(T, x), plain.row(S, y)) in plain.within_by_rounds(T, S)
            self.assertEqual(found[0] == "within", upheld)
            if upheld:
                self.assertTrue(plain.is_within_paper(T, x, S, y, self.lies(T, x, S, y)))
            elif len(found[1]) < 9:
                self.beyond(T, x, S, y, plain.bad_road(T, x, S, y, len(found[1])))
        self.assertGreater(min(seen.values()), 50)

    def test_within_both_ways_is_alike_but_for_what_is_settled(self):
        chance = random.Random(24)
        for turn in range(300):
            T = some_telling(chance, chance.randrange(1, 5), ["v", "w"])
            x, y = chance.choice(T)[0], chance.choice(T)[0]
            both = lies_within(T, x, T, y) and lies_within(T, y, T, x)
            self.assertEqual(both, are_alike(T, x, T, y))

    def test_one_within_another_within_a_third(self):
        chance = random.Random(25)
        seen = 0
        for turn in range(2000):
            T = some_telling(chance, 5, ["v", "w"])
            x, y, z = [chance.choice(T)[0] for k in range(3)]
            if x != y != z and lies_within(T, x, T, y) and lies_within(T, y, T, z):
                self.lies(T, x, T, z)
                seen += 1
        self.assertGreater(seen, 50)


class Papers(unittest.TestCase):
    T = told("s = x", "x = way y b", "y = box v a", "a = all", "b = box v n w z", "n = none", "z = pick", "q = box v n")
    S = told("p = way e f", "e = box v g w h", "g = none", "h = all", "f = box w i", "i = pick u g", "r = p",
             "m = box")
    PAPER = [(1, "x", "p"), (-1, "y", "e"), (-1, "a", "g"), (1, "b", "f"), (1, "z", "i")]

    def right(self, paper, x="x", y="p"):
        self.look(paper, x, y, True)

    def wrong(self, paper, x="x", y="p"):
        self.look(paper, x, y, False)

    def look(self, paper, x, y, answer):
        """Asked twice, and the paper is the same behind it."""
        before = list(paper)
        self.assertEqual(plain.is_within_paper(self.T, x, self.S, y, paper), answer)
        for turn in range(2):
            self.assertIs(is_within_paper(self.T, x, self.S, y, paper), answer, paper)
        self.assertEqual(paper, before)

    def test_right_ones(self):
        for order in itertools.permutations(self.PAPER):
            self.right(list(order))
        for x, y in (("s", "p"), ("s", "r"), ("x", "r"), ("b", "f"), ("z", "i")):
            self.right(self.PAPER, x, y)
        self.right([(1, "n", "e")], "n", "e")
        self.right([(1, "y", "h")], "y", "h")

    def test_a_tuple_twice(self):
        self.right(self.PAPER + self.PAPER)

    def test_a_right_tuple_more(self):
        for triple in ((1, "n", "g"), (1, "x", "h"), (-1, "a", "p"), (-1, "x", "g"), (1, "b", "m"), (1, "n", "p"),
                       (-1, "a", "e")):
            self.right(self.PAPER + [triple])
            self.right([triple] + self.PAPER)

    def test_a_wrong_tuple_more(self):
        for triple in ((-1, "x", "p"), (1, "y", "e"), (1, "a", "g"), (-1, "b", "f"), (1, "x", "f"), (-1, "n", "p"),
                       (1, "x", "g"), (-1, "b", "m"), (1, "a", "p"), (-1, "x", "h")):
            self.wrong(self.PAPER + [triple])
            self.wrong([triple] + self.PAPER)

    def test_a_tuple_whose_ends_are_missing(self):
        self.wrong([(1, "z", "i"), (1, "x", "p")], "z", "i")
        self.wrong([(1, "z", "i"), (-1, "y", "e")], "z", "i")
        self.wrong(self.PAPER + [(-1, "q", "e")])
        self.right(self.PAPER + [(-1, "q", "e"), (-1, "n", "g")])

    def test_a_tuple_fewer(self):
        for at in range(len(self.PAPER)):
            self.wrong(self.PAPER[:at] + self.PAPER[at + 1:])
        self.wrong(self.PAPER[:1])

    def test_the_side_turned(self):
        for at, (side, a, b) in enumerate(self.PAPER):
            self.wrong(self.PAPER[:at] + [(-side, a, b)] + self.PAPER[at + 1:])
        self.wrong([(-side, a, b) for side, a, b in self.PAPER])

    def test_the_first_tuple_with_side_one(self):
        T = told("x = way x x")
        self.assertIs(is_within_paper(T, "x", T, "x", [(1, "x", "x"), (-1, "x", "x")]), True)
        self.assertIs(is_within_paper(T, "x", T, "x", [(1, "x", "x")]), False)
        self.assertIs(is_within_paper(T, "x", T, "x", [(-1, "x", "x")]), False)
        T = told("x = all")
        self.assertIs(is_within_paper(T, "x", T, "x", [(1, "x", "x")]), True)
        self.assertIs(is_within_paper(T, "x", T, "x", [(-1, "x", "x")]), False)

    def test_another_number_for_a_side(self):
        for number in (0, 2, -2, 3, 100, 10 ** 30):
            self.wrong(self.PAPER + [(number, "x", "p")])
            self.wrong(self.PAPER + [(number, "n", "h")])
            self.wrong([(number, "x", "p")] + self.PAPER[1:])
            self.wrong([(number, a, b) for side, a, b in self.PAPER])

    def test_names_of_as_rows(self):
        for side in (1, -1):
            for a, b in (("s", "p"), ("x", "r"), ("s", "r"), ("s", "h"), ("n", "r"), ("s", "g"), ("a", "r")):
                self.wrong(self.PAPER + [(side, a, b)])
        self.wrong([(1, "s", "r")] + self.PAPER[1:], "s", "r")
        self.wrong([(1, "s", "r")] + self.PAPER, "s", "r")

    def test_names_that_there_are_not(self):
        for side in (1, -1):
            for a, b in (("zz", "p"), ("x", "zz"), ("zz", "h"), ("n", "zz"), ("a", "zz"), ("zz", "g"), ("p", "x"),
                         ("", ""), ("none", "all"), ("A b", "\n")):
                self.wrong(self.PAPER + [(side, a, b)])
                self.wrong([(side, a, b)])

    def test_an_empty_one(self):
        for x, y in (("x", "p"), ("n", "h"), ("a", "g")):
            self.wrong([], x, y)

    def test_turned_about(self):
        self.wrong([(side, b, a) for side, a, b in self.PAPER])

    def test_all_of_small_tellings(self):
        T = told("x = way x y", "y = none", "s = x")
        triples = list(itertools.product((1, -1, 0), "xys", "xy"))
        for many in range(4):
            for paper in itertools.combinations(triples, many):
                for x, y in (("x", "x"), ("y", "x"), ("x", "y"), ("s", "x")):
                    self.assertIs(is_within_paper(T, x, T, y, list(paper)),
                                  plain.is_within_paper(T, x, T, y, list(paper)))

    def test_a_told_list_is_the_askers_own(self):
        first = within(self.T, "x", self.S, "p")[1]
        before = list(first)
        first.clear()
        self.assertEqual(within(self.T, "x", self.S, "p"), ("within", before))
