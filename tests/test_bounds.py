import itertools
import math
import random
import unittest

from coilkind.bounds import joined, met
from coilkind.least import least
from coilkind.tellings import is_telling
from coilkind.within import lies_within
from samples import doubled, names, ring, small_heads, some_telling, told

SORTS = told("a = all", "n = none", "w = way a n", "b = box w a", "p = pick w a")
ALL, NONE = told("ka = all"), told("ka = none")


def beating(many, inner="none", outer="all", sort="box"):
    """A ring whose part v is the inner kind at its first row, the outer one at all others."""
    called = names(many)
    rows = [(name, (sort, (("v", "inner" if k == 0 else "outer"), ("w", called[(k + 1) % many]))))
            for k, name in enumerate(called)]
    return tuple(rows) + (("inner", (inner,)), ("outer", (outer,)))


class Checked(unittest.TestCase):
    def bounds(self, T, x, S, y):
        """Both, in both orders, and all that two kinds alone tell of them."""
        up, down = joined(T, x, S, y), met(T, x, S, y)
        self.assertEqual(joined(S, y, T, x), up)
        self.assertEqual(met(S, y, T, x), down)
        for R, z in ((T, x), (S, y)):
            self.assertTrue(lies_within(R, z, up, "ka"), (T, x, S, y, up))
            self.assertTrue(lies_within(down, "ka", R, z), (T, x, S, y, down))
        for found in (up, down):
            self.assertEqual(least(found, "ka"), found)
            self.assertTrue(len(found) > 200 or is_telling(found))
        return up, down

    def told_so(self, T, x, S, y, up, down):
        self.assertEqual(self.bounds(T, x, S, y), (least(up, up[0][0]), least(down, down[0][0])), (T, x, S, y))

    def turned_so(self, T, x, S, y, up, down):
        """Likewise of ways from the two kinds, of which the first kinds are turned about."""
        first = (("way", ("way", x, "end")), ("end", ("all",)))
        up, down = [(("way", ("way", R[0][0], "end")), ("end", ("all",))) + R for R in (up, down)]
        self.told_so(first + T, "way", (("way", ("way", y, "end")),) + first[1:] + S, "way", down, up)

    def both_so(self, T, x, S, y, up, down):
        self.told_so(T, x, S, y, up, down)
        self.turned_so(T, x, S, y, up, down)


class Sorts(Checked):
    def test_every_two(self):
        for x, y in itertools.product("anwbp", repeat=2):
            up = "a" if "a" in (x, y) else y if x == "n" else x if y == "n" or x == y else "a"
            down = "n" if "n" in (x, y) else y if x == "a" else x if y == "a" or x == y else "n"
            self.both_so(SORTS, x, SORTS, y, least(SORTS, up), least(SORTS, down))

    def test_through_as_rows(self):
        T = told("s = t", "t = box v u", "u = n", "n = none")
        S = told("a = b", "b = box v c w d", "c = d", "d = all")
        self.both_so(T, "s", S, "a", told("x = box v y", "y = all"), told("x = box v n w a", "n = none", "a = all"))
        self.told_so(T, "u", S, "c", ALL, NONE)

    def test_none_and_all_keep_the_other_one_whole(self):
        chance = random.Random(41)
        for turn in range(100):
            T = some_telling(chance, chance.randrange(1, 7), ["v", "w"])
            x = chance.choice(T)[0]
            self.told_so(T, x, NONE, "ka", least(T, x), NONE)
            self.told_so(T, x, ALL, "ka", ALL, least(T, x))

    def test_a_kind_with_itself(self):
        chance = random.Random(42)
        for turn in range(100):
            T = some_telling(chance, chance.randrange(1, 7), ["v", "w"])
            x = chance.choice(T)[0]
            self.told_so(T, x, T, x, least(T, x), least(T, x))
            self.told_so(T, x, doubled(chance, T), x + "a", least(T, x), least(T, x))

    def test_a_kind_within_the_other(self):
        chance = random.Random(43)
        seen = 0
        for turn in range(2000):
            T = some_telling(chance, 4, ["v", "w"])
            x, y = chance.choice(T)[0], chance.choice(T)[0]
            if lies_within(T, x, T, y):
                seen += least(T, x) != least(T, y)
                self.told_so(T, x, T, y, least(T, y), least(T, x))
        self.assertGreater(seen, 100)


class Words(Checked):
    def test_boxes(self):
        self.both_so(told("x = box u a v a", "a = all"), "x", told("x = box v a w a", "a = all"), "x",
                     told("x = box v a", "a = all"), told("x = box u a v a w a", "a = all"))
        self.both_so(told("x = box u a", "a = all"), "x", told("x = box w a", "a = all"), "x",
                     told("x = box"), told("x = box u a w a", "a = all"))
        self.both_so(told("x = box"), "x", told("x = box w n", "n = none"), "x",
                     told("x = box"), told("x = box w n", "n = none"))

    def test_picks(self):
        self.both_so(told("x = pick u a v a", "a = all"), "x", told("x = pick v a w a", "a = all"), "x",
                     told("x = pick u a v a w a", "a = all"), told("x = pick v a", "a = all"))
        self.both_so(told("x = pick u a", "a = all"), "x", told("x = pick w a", "a = all"), "x",
                     told("x = pick u a w a", "a = all"), told("x = pick"))
        self.both_so(told("x = pick"), "x", told("x = pick w n", "n = none"), "x",
                     told("x = pick w n", "n = none"), told("x = pick"))

    def test_what_stands_at_words_of_both_and_of_one(self):
        for sort in ("box", "pick"):
            T = told(f"x = {sort} u p v q", "p = pick", "q = box w a", "a = all")
            S = told(f"x = {sort} v q w n", "n = none", "q = box u a", "a = all")
            common = (told(f"x = {sort} v q", "q = box"), told(f"x = {sort} v q", "q = box u a w a", "a = all"))
            up = told(f"x = {sort} u p v q w n", "p = pick", "q = box", "n = none")
            down = told(f"x = {sort} u p v q w n", "p = pick", "q = box u a w a", "a = all", "n = none")
            self.both_so(T, "x", S, "x", *((common[0], down) if sort == "box" else (up, common[1])))

    def test_all_choices_of_words(self):
        words = "tuvw"
        chosen = [few for many in range(5) for few in itertools.combinations(words, many)]
        for few, more in itertools.product(chosen, repeat=2):
            for sort in ("box", "pick"):
                T, S = [told(f"x = {sort} " + " ".join(f"{word} a" for word in some), "a = all") for some in (few, more)]
                both = told(f"x = {sort} " + " ".join(f"{word} a" for word in words if word in few and word in more),
                            "a = all")
                some = told(f"x = {sort} " + " ".join(f"{word} a" for word in words if word in few or word in more),
                            "a = all")
                self.told_so(T, "x", S, "x", *((both, some) if sort == "box" else (some, both)))

    def test_ways(self):
        T = told("x = way b p", "b = box u a", "p = pick u a", "a = all")
        S = told("x = way b p", "b = box w a", "p = pick w a", "a = all")
        self.both_so(T, "x", S, "x", told("x = way b p", "b = box u a w a", "p = pick u a w a", "a = all"),
                     told("x = way b p", "b = box", "p = pick"))
        T = told("x = way a n", "a = all", "n = none")
        S = told("x = way n a", "a = all", "n = none")
        self.both_so(T, "x", S, "x", S, T)
        S = told("x = way b b", "b = box")
        self.both_so(T, "x", S, "x", S, T)

    def test_ways_in_ways(self):
        T = told("x = way y a", "y = way b a", "b = box u a", "a = all")
        S = told("x = way y n", "y = way b n", "b = box w a", "a = all", "n = none")
        self.both_so(T, "x", S, "x", told("x = way y a", "y = way b n", "b = box", "n = none", "a = all"),
                     told("x = way y n", "y = way b a", "b = box u a w a", "n = none", "a = all"))

    def test_rows_called_alike_are_not_mixed_up(self):
        T = told("x = box v y", "y = all", "z = none")
        S = told("x = box v z", "y = all", "z = none")
        self.told_so(T, "x", S, "x", T, S)


class Rings(Checked):
    def test_ways_that_go_round(self):
        T = told("x = way x a", "a = all")
        S = told("x = way x n", "n = none")
        # At an odd number of from steps what is met stands.
        self.both_so(T, "x", S, "x", told("x = way y a", "y = way x n", "a = all", "n = none"),
                     told("x = way y n", "y = way x a", "a = all", "n = none"))

    def test_lists(self):
        T = told("x = pick cons p nil u", "p = box head n tail x", "u = box", "n = none")
        S = told("x = pick cons p end u", "p = box head b tail x", "u = box", "b = box")
        self.both_so(T, "x", S, "x", told("x = pick cons p end u nil u", "p = box head u tail x", "u = box"),
                     told("x = pick cons p", "p = box head n tail x", "n = none"))

    def test_lengths(self):
        for n, m in ((1, 1), (1, 5), (2, 3), (4, 6), (6, 6), (5, 7), (13, 17)):
            whole = math.lcm(n, m)
            for sort in ("box", "pick"):
                # Joined, none stands just where it does in both; met, all does.
                T, S = [beating(many, sort=sort) for many in (n, m)]
                up, down = self.bounds(T, "raa", S, "raa")
                self.assertEqual(up, least(beating(whole, sort=sort), "raa"))
                if n > 1 or m > 1:
                    self.assertEqual(len(up), whole + (2 if whole > 1 else 1))
                T, S = [beating(many, "all", "none", sort) for many in (n, m)]
                up, down = self.bounds(T, "raa", S, "raa")
                self.assertEqual(down, least(beating(whole, "all", "none", sort), "raa"))

    def test_more_than_two_hundred_rows(self):
        up = joined(beating(13), "raa", beating(17), "raa")
        down = met(beating(13, "all", "none"), "raa", beating(17, "all", "none"), "raa")
        for found in (up, down):
            self.assertEqual(len(found), 13 * 17 + 2)
            self.assertFalse(is_telling(found))
        # Handed in again, with one another and with what they are made of.
        self.assertEqual(joined(up, "ka", beating(13), "raa"), up)
        self.assertEqual(met(beating(17, "all", "none"), "raa", down, "ka"), down)
        self.assertEqual(met(up, "ka", beating(13), "raa"), least(beating(13), "raa"))
        self.assertEqual(joined(up, "ka", down, "ka"), joined(down, "ka", up, "ka"))
        self.assertEqual(joined(up, "ka", up, "ka"), up)
        more = joined(up, "ka", beating(3), "raa")
        self.assertEqual(len(more), 3 * 13 * 17 + 2)
        self.assertEqual(more, least(beating(3 * 13 * 17), "raa"))

    def test_alike_rings(self):
        for n, m in ((1, 4), (5, 7), (60, 61)):
            self.told_so(ring(n), "raa", ring(m), "raa", ring(1), ring(1))


class ByChance(Checked):
    def test_against_all_others_that_are_small(self):
        """Just those within which both lie are those within which what is joined lies; and the other way about."""
        chance = random.Random(44)
        heads = small_heads("xy", ["v", "w"])
        others = [tuple(zip("xy", two)) for two in itertools.product(heads, repeat=2)]
        seen = {"up": 0, "down": 0}
        for turn in range(250):
            T, S = chance.choice(others), chance.choice(others)
            up, down = self.bounds(T, "x", S, "x")
            for R in chance.sample(others, 60):
                above = lies_within(T, "x", R, "x") and lies_within(S, "x", R, "x")
                self.assertEqual(lies_within(up, "ka", R, "x"), above, (T, S, R))
                below = lies_within(R, "x", T, "x") and lies_within(R, "x", S, "x")
                self.assertEqual(lies_within(R, "x", down, "ka"), below, (T, S, R))
                seen["up"] += above and R[0][1] != ("all",)
                seen["down"] += below and R[0][1] != ("none",)
        self.assertGreater(min(seen.values()), 100)

    def test_above_and_below_made_of_the_same_rows(self):
        chance = random.Random(45)
        seen = [0, 0]
        for turn in range(1500):
            T = some_telling(chance, 6, ["v", "w"], ("way", "box", "pick", "all", "none", "way"))
            x, y = chance.choice(T)[0], chance.choice(T)[0]
            up, down = self.bounds(T, x, T, y)
            for z, head in T:
                above = lies_within(T, x, T, z) and lies_within(T, y, T, z)
                self.assertEqual(lies_within(up, "ka", T, z), above)
                below = lies_within(T, z, T, x) and lies_within(T, z, T, y)
                self.assertEqual(lies_within(T, z, down, "ka"), below)
                seen[0] += above
                seen[1] += below
        self.assertGreater(min(seen), 500)

    def test_one_law_for_three(self):
        chance = random.Random(46)
        for turn in range(200):
            T = some_telling(chance, 6, ["v", "w"])
            x, y, z = [chance.choice(T)[0] for k in range(3)]
            for way in (joined, met):
                first = way(way(T, x, T, y), "ka", T, z)
                self.assertEqual(first, way(T, x, way(T, y, T, z), "ka"))
            self.assertEqual(joined(T, x, met(T, x, T, y), "ka"), least(T, x))
            self.assertEqual(met(T, x, joined(T, x, T, y), "ka"), least(T, x))

    def test_by_other_tellings_of_the_same_kinds(self):
        chance = random.Random(47)
        for turn in range(200):
            T, S = [some_telling(chance, chance.randrange(1, 6), ["v", "w"]) for k in range(2)]
            x, y = chance.choice(T)[0], chance.choice(S)[0]
            R, Q = doubled(chance, T), doubled(chance, S)
            self.assertEqual(self.bounds(T, x, S, y), self.bounds(R, x + "s", Q, y + "b"))
