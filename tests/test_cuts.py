import random
import unittest

import plain
from coilkind.bounds import joined
from coilkind.cuts import height, over, under
from coilkind.least import least
from coilkind.within import lies_within, within
from samples import chain_to, doubled, names, ring, some_telling, told, with_one_changed

ALL, NONE = told("ka = all"), told("ka = none")


class Cuts(unittest.TestCase):
    def look(self, T, x, n):
        up, down = over(T, x, n), under(T, x, n)
        self.assertTrue(plain.is_cut(T, x, n, 1, up), (T, x, n, up))
        self.assertTrue(plain.is_cut(T, x, n, -1, down), (T, x, n, down))
        for found in (up, down):
            self.assertEqual(least(found, "ka"), found)
        self.assertTrue(lies_within(T, x, up, "ka"))
        self.assertTrue(lies_within(down, "ka", T, x))
        return up, down

    def test_at_zero(self):
        T = told("a = all", "n = none", "w = way a n", "b = box v a", "p = pick v a", "s = w")
        for x, head in T:
            self.assertEqual(self.look(T, x, 0), (ALL, NONE))

    def test_at_one(self):
        T = told("a = all", "n = none", "w = way w b", "b = box u n v a", "p = pick v b", "s = p", "e = box")
        for x, up, down in (
                ("a", ALL, ALL), ("n", NONE, NONE), ("e", told("ka = box"), told("ka = box")),
                ("w", told("ka = way kb kc", "kb = none", "kc = all"), told("ka = way kb kc", "kb = all", "kc = none")),
                ("b", told("ka = box u kb v kb", "kb = all"), told("ka = box u kb v kb", "kb = none")),
                ("p", told("ka = pick v kb", "kb = all"), told("ka = pick v kb", "kb = none")),
                ("s", told("ka = pick v kb", "kb = all"), told("ka = pick v kb", "kb = none"))):
            self.assertEqual(self.look(T, x, 1), (up, down))

    def test_sides_at_the_cut(self):
        T = told("x = way x x")
        self.assertEqual(self.look(T, "x", 2), (
            told("ka = way kb kc", "kb = way kd ke", "kc = way ke kd", "kd = all", "ke = none"),
            told("ka = way kb kc", "kb = way kd ke", "kc = way ke kd", "kd = none", "ke = all")))

    def test_what_ends_ahead_of_the_cut_stays(self):
        T = told("x = box u a v n w y", "a = all", "n = none", "y = pick v e", "e = box")
        self.assertEqual(self.look(T, "x", 2), (
            told("ka = box u kb v kc w kd", "kb = all", "kc = none", "kd = pick v kb"),
            told("ka = box u kb v kc w kd", "kb = all", "kc = none", "kd = pick v kc")))
        for n in (3, 4, 12):
            self.assertEqual(self.look(T, "x", n), (least(T, "x"), least(T, "x")))

    def test_rings(self):
        for n in range(13):
            up, down = self.look(ring(3), "raa", n)
            self.assertEqual(up, least(chain_to(n + 1, ("all",)), "raa"))
            self.assertEqual(down, least(chain_to(n + 1, ("none",)), "raa"))

    def test_somewhat_beyond_twelve(self):
        self.assertEqual(over(ring(3), "raa", 30), least(chain_to(31, ("all",)), "raa"))
        self.assertEqual(under(ring(3), "raa", 30), least(chain_to(31, ("none",)), "raa"))

    def test_by_chance(self):
        chance = random.Random(51)
        for turn in range(300):
            T = some_telling(chance, chance.randrange(1, 6), ["v", "w"])
            x = chance.choice(T)[0]
            for n in range(6):
                self.assertEqual(self.look(T, x, n), self.look(doubled(chance, T), x + "s", n))

    def test_each_closes_in_on_the_kind(self):
        chance = random.Random(52)
        for turn in range(100):
            T = some_telling(chance, chance.randrange(1, 7), ["v", "w"])
            x = chance.choice(T)[0]
            for n in range(12):
                self.assertTrue(lies_within(over(T, x, n + 1), "ka", over(T, x, n), "ka"))
                self.assertTrue(lies_within(under(T, x, n), "ka", under(T, x, n + 1), "ka"))
                self.assertTrue(lies_within(under(T, x, n), "ka", over(T, x, n), "ka"))
                self.assertEqual(over(over(T, x, n + 1), "ka", n), over(T, x, n))
                self.assertEqual(under(over(T, x, n), "ka", n), under(T, x, n))

    def test_the_first_that_does_not_lie_within(self):
        chance = random.Random(53)
        seen = {}
        for turn in range(400):
            sorts = ("way", "way", "box", "all", "none") if turn % 2 else ("pick", "box", "way")
            T = some_telling(chance, chance.randrange(2, 6), ["v", "w"], sorts)
            S = with_one_changed(chance, doubled(chance, T), ["v", "w"], sorts)
            x = chance.choice(T)[0]
            word, told_of = within(T, x, S, x + "a")
            first = 13 if word == "within" else len(told_of) + 1
            seen[first] = seen.get(first, 0) + 1
            for n in range(13):
                self.assertEqual(lies_within(over(T, x, n), "ka", over(S, x + "a", n), "ka"), n < first)
                self.assertEqual(lies_within(under(T, x, n), "ka", under(S, x + "a", n), "ka"), n < first)
        self.assertTrue({1, 2, 3, 4, 13} <= set(seen), seen)

    def test_handed_in_again(self):
        T = told("x = way x b", "b = box v x w b")
        for n in range(8):
            up, down = self.look(T, "x", n)
            self.assertEqual(joined(up, "ka", down, "ka"), up)
            self.assertEqual(height(up, "ka"), n)


class Height(unittest.TestCase):
    def test_no_steps(self):
        for head in ("all", "none", "box", "pick"):
            self.assertEqual(height(told(f"x = {head}"), "x"), 0)

    def test_one_step(self):
        T = told("x = way a b", "y = box v a w b", "z = pick w a", "a = all", "b = box", "s = z")
        for x in "xyzs":
            self.assertEqual(height(T, x), 1)

    def test_the_longest_of_several(self):
        T = told("x = box u a v y w b", "y = pick w z", "z = way a b", "a = all", "b = box v a", "f = way x a",
                 "t = way a x")
        self.assertEqual([height(T, x) for x in "xyzabft"], [4, 3, 2, 0, 1, 5, 5])

    def test_through_as_rows(self):
        T = told("s = x", "x = box v t", "t = u", "u = y", "y = way e e", "e = f", "f = none")
        self.assertEqual([height(T, x) for x in "sxtuyef"], [2, 2, 1, 1, 1, 0, 0])

    def test_chains(self):
        for many in (2, 3, 100, 200, 650):
            for head in (lambda name: ("box", (("w", name),)), lambda name: ("way", name, name)):
                T = chain_to(many, ("none",), head)
                self.assertEqual(height(T, "raa"), many - 1)
                self.assertEqual(height(T[::-1], "raa"), many - 1)

    def test_far_more_roads_than_could_be_gone(self):
        T = chain_to(200, ("all",), lambda name: ("pick", tuple((word, name) for word in "abcdefgh")))
        self.assertEqual(height(T, "raa"), 199)
        called = names(200)
        T = tuple((name, ("box", tuple((word, called[k + 1 + at]) for at, word in enumerate("abcdefgh")
                                       if k + 1 + at < 200))) for k, name in enumerate(called))
        self.assertEqual(height(T, "raa"), 199)

    def test_roads_that_go_round(self):
        for many in (1, 2, 7, 200):
            self.assertIsNone(height(ring(many), "raa"))
            self.assertIsNone(height(ring(many, lambda name: ("way", "end", name)) + (("end", ("all",)),), "raa"))
        T = told("x = box v a w y", "y = pick v a w z", "z = way y a", "a = all", "b = box v a", "s = z")
        self.assertEqual([height(T, x) for x in "xyzsab"], [None, None, None, None, 0, 1])

    def test_rings_to_which_no_road_leads(self):
        T = told("x = box v a", "a = all", "r = box v r w x", "s = r")
        self.assertEqual([height(T, x) for x in "xars"], [1, 0, None, None])

    def test_by_chance(self):
        chance = random.Random(54)
        seen = {}
        for turn in range(1000):
            T = some_telling(chance, chance.randrange(1, 6), ["v", "w"], ("all", "none", "box", "pick", "way", "all"))
            for x, head in T:
                most = [n for n in range(7) if plain.roads(T, x, n)][-1]
                found = height(T, x)
                self.assertEqual(found, None if most == 6 else most)
                self.assertEqual(height(doubled(chance, T), x + "s"), found)
                seen[found] = seen.get(found, 0) + 1
        self.assertTrue({None, 0, 1, 2, 3} <= set(seen), seen)
