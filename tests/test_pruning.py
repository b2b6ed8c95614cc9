import random
import unittest

import plain
from coilkind.bounds import joined
from coilkind.errors import CoilError, TooMany
from coilkind.least import least
from coilkind.pruning import parting, pruned
from coilkind.things import fewest, how_many_things, is_of, is_thing
from coilkind.within import lies_within
from samples import chain_to, doubled, names, ring, some_telling, told, with_one_changed

UNIT = ("box", ())
ALL, NONE = told("ka = all"), told("ka = none")
SORTS = told("a = all", "n = none", "w = way a a", "b = box", "c = box v a", "p = pick", "q = pick v a", "s = b")
THINGS = ("box", "pick", "box", "pick", "all", "none", "way")


class Pruned(unittest.TestCase):
    def so(self, T, x, lines):
        self.assertEqual(pruned(T, x), told(*lines), (T, x))

    def test_each_sort(self):
        for x in "abcqs":
            self.assertEqual(pruned(SORTS, x), least(SORTS, x))
        for x in "nwp":
            self.assertEqual(pruned(SORTS, x), NONE)

    def test_rows_without_things_become_none(self):
        T = told("x = box u a v y", "y = box w n", "a = all", "n = none")
        for x in "xyn":
            self.assertEqual(pruned(T, x), NONE)
        T = told("x = box u a v y", "y = way a a", "a = all")
        for x in "xy":
            self.assertEqual(pruned(T, x), NONE)

    def test_what_stands_in_ways(self):
        # A way has no thing, whatever stands in it.
        T = told("x = way b b", "b = box", "y = pick v x w b", "z = box v x", "s = x")
        self.assertEqual(pruned(T, "x"), NONE)
        self.assertEqual(pruned(T, "s"), NONE)
        self.assertEqual(pruned(T, "z"), NONE)
        self.so(T, "y", ["ka = pick w kb", "kb = box"])

    def test_cases_without_things_are_left_out(self):
        T = told("x = pick t n u p v a w b", "n = none", "p = pick", "a = all", "b = box w y", "y = pick v n")
        self.so(T, "x", ["ka = pick v kb", "kb = all"])
        T = told("x = box v y w y", "y = pick u n w z", "z = pick t n v a", "a = all", "n = none")
        self.so(T, "x", ["ka = box v kb w kb", "kb = pick w kc", "kc = pick v kd", "kd = all"])

    def test_a_pick_that_loses_all_its_cases(self):
        T = told("x = pick v n w r", "n = none", "r = box w r", "y = pick u x w b", "b = box", "z = box v x")
        self.assertEqual(pruned(T, "x"), NONE)
        self.assertEqual(pruned(T, "z"), NONE)
        self.so(T, "y", ["ka = pick w kb", "kb = box"])

    def test_kinds_that_go_round(self):
        T = told("x = pick cons p nil u", "p = box head a tail x", "u = box", "a = all")
        self.assertEqual(pruned(T, "x"), least(T, "x"))
        T = told("x = pick cons p nil u more r", "p = box head a tail x", "u = box", "a = all", "r = box w r")
        self.so(T, "x", ["ka = pick cons kb nil kc", "kb = box head kd tail ka", "kc = box", "kd = all"])
        for many in (1, 2, 10):
            self.assertEqual(pruned(ring(many), "raa"), NONE)
            self.assertEqual(pruned(ring(many, lambda name: ("pick", (("w", name),))), "raa"), NONE)

    def test_rows_that_become_alike(self):
        T = told("x = box v y w z", "y = pick v n w b", "z = pick w b", "b = box", "n = none")
        self.so(T, "x", ["ka = box v kb w kb", "kb = pick w kc", "kc = box"])

    def test_through_as_rows(self):
        T = told("s = t", "t = pick v u w r", "u = n", "n = none", "r = b", "b = box")
        for x in "st":
            self.so(T, x, ["ka = pick w kb", "kb = box"])
        self.assertEqual(pruned(T, "u"), NONE)

    def test_by_chance(self):
        chance = random.Random(71)
        seen = 0
        for turn in range(800):
            sorts = THINGS if turn % 2 else ("pick", "pick", "pick", "all", "none", "box")
            T = some_telling(chance, chance.randrange(1, 11), ["u", "v", "w"], sorts)
            x = chance.choice([row for row in T if row[1][0] == "pick"] or T)[0]
            found = pruned(T, x)
            self.assertEqual(found, least(plain.pruned(T), x))
            self.assertEqual(pruned(found, "ka"), found)
            self.assertEqual(pruned(doubled(chance, T), x + "s"), found)
            self.assertTrue(lies_within(found, "ka", T, x))
            seen += found != NONE and found != least(T, x)
            for n in range(1, 8):
                words = ["t", "u", "v", "w"]
                self.assertEqual(how_many_things(found, "ka", words, n), how_many_things(T, x, words, n))
            for thing in plain.things(("u", "v", "w"), 3):
                self.assertEqual(is_of(found, "ka", thing), is_of(T, x, thing))
        self.assertGreater(seen, 50)

    def test_somewhat_beyond_ten_rows(self):
        called = names(60)
        T = tuple((name, ("pick", (("v", "none"), ("w", called[(k + 1) % 60])) + ((("x", "all"),) if k == 7 else ())))
                  for k, name in enumerate(called)) + (("none", ("none",)), ("all", ("all",)))
        S = tuple((name, ("pick", (("w", called[(k + 1) % 60]),) + ((("x", "all"),) if k == 7 else ())))
                  for k, name in enumerate(called)) + (("all", ("all",)),)
        self.assertEqual(pruned(T, "raa"), least(S, "raa"))

    def test_a_telling_that_is_told(self):
        T, S = [tuple((name, ("pick", head[1] + ((("x", "end"),) if k == 0 else (("y", "no"),))))
                      for k, (name, head) in enumerate(ring(many))) + told("end = all", "no = none")
                for many in (13, 17)]
        whole = joined(T, "raa", S, "raa")
        self.assertGreater(len(whole), 200)
        found = pruned(whole, "ka")
        self.assertEqual(found, joined(pruned(T, "raa"), "ka", pruned(S, "raa"), "ka"))
        self.assertTrue(lies_within(found, "ka", whole, "ka"))


class Parting(unittest.TestCase):
    def so_many(self, T, x, S, y, many):
        found = parting(T, x, S, y)
        self.assertIsInstance(found, tuple, (T, x, S, y))
        self.assertEqual(found[0], many, (T, x, S, y, found))
        self.assertTrue(is_thing(found[1]))
        self.assertEqual(plain.pieces(found[1]), many)
        self.assertTrue(plain.is_of(T, x, found[1]))
        self.assertFalse(plain.is_of(S, y, found[1]))

    def no_thing(self, T, x, S, y):
        self.assertIsNone(parting(T, x, S, y))

    def refused(self, T, x, S, y, many):
        with self.assertRaises(TooMany) as caught:
            parting(T, x, S, y)
        self.assertEqual(caught.exception.many, many)
        self.assertIsInstance(caught.exception, CoilError)

    def test_every_two_sorts(self):
        known = {"a": "n1 w1 b2 c1 p1 q1 s2", "b": "n1 w1 c1 p1 q1", "c": "n2 w2 p2 q2", "q": "n2 w2 b2 c2 p2 s2",
                 "s": "n1 w1 c1 p1 q1"}
        for x, head in SORTS:
            many = {two[0]: int(two[1]) for two in known.get(x, "").split()}
            for y, other in SORTS:
                if y in many:
                    self.so_many(SORTS, x, SORTS, y, many[y])
                else:
                    self.no_thing(SORTS, x, SORTS, y)

    def test_a_word_that_is_missing(self):
        T = told("x = box u b", "b = box", "y = box u b w b", "z = box u y", "e = box v a", "a = all")
        self.so_many(T, "x", T, "y", 2)
        self.no_thing(T, "y", T, "x")
        self.so_many(T, "x", T, "z", 2)
        self.so_many(T, "z", T, "y", 4)
        self.so_many(T, "z", T, "e", 4)

    def test_a_part_that_is_not_of_the_kind(self):
        T = told("x = box u a v c w q", "a = all", "b = box", "c = box w b", "q = pick v b w p", "p = pick t b",
                 "y = box v d", "d = box w r", "r = pick v a", "z = box w s", "s = pick v a", "t = box u b v c w q")
        # In v and w a thing of x has two pieces each; in w a pick w of three isn't one of s.
        self.so_many(T, "x", T, "y", 1 + 1 + 2 + 2)
        self.so_many(T, "x", T, "z", 1 + 1 + 2 + 3)
        # At u a pick is no box.
        self.so_many(T, "x", T, "t", 1 + 2 + 2 + 2)

    def test_picks(self):
        T = told("x = pick u b v c w q", "b = box", "c = box w b", "q = pick w b", "y = pick v c w q",
                 "z = pick u b v b w b", "d = pick u a v a", "a = all", "e = pick u a v a w r", "r = pick v a")
        self.so_many(T, "x", T, "y", 2)
        self.so_many(T, "x", T, "z", 3)
        self.so_many(T, "x", T, "d", 3)
        self.so_many(T, "x", T, "e", 3)
        self.no_thing(T, "y", T, "x")

    def test_the_fewest_of_several(self):
        T = told("x = pick u p v c", "p = pick u q", "q = pick u b", "b = box", "c = box a b b b c b d b", "y = pick")
        self.so_many(T, "x", T, "y", 4)
        S = told("y = pick u p v n", "p = pick u q", "q = pick u b", "b = box", "n = none")
        self.so_many(T, "x", S, "y", 6)
        self.no_thing(T, "p", S, "p")

    def test_none_though_the_first_does_not_lie_within_the_second(self):
        T = told("x = box v n", "n = none", "w = way n n", "y = pick v n w b", "b = box", "z = pick w b",
                 "r = box w r", "e = pick", "s = r")
        for x, y in (("x", "e"), ("w", "e"), ("w", "n"), ("y", "z"), ("r", "n"), ("e", "b"), ("x", "z"), ("s", "z")):
            self.assertFalse(lies_within(T, x, T, y))
            self.no_thing(T, x, T, y)

    def test_kinds_that_go_round(self):
        T = told("x = pick cons p nil u", "p = box head b tail x", "u = box", "b = box")
        even = told("x = pick cons p nil u", "p = box head b tail y", "y = pick cons q", "q = box head b tail x",
                    "u = box", "b = box")
        # One cons round nil: cons, its box, head, nil, what is in it.
        self.so_many(T, "x", even, "x", 5)
        self.no_thing(even, "x", T, "x")
        self.so_many(T, "x", even, "y", 2)
        self.so_many(even, "x", even, "y", 2)
        self.so_many(even, "y", even, "x", 5)
        self.no_thing(ring(3), "raa", ring(2), "raa")
        self.no_thing(T, "x", T, "x")

    def test_through_as_rows(self):
        T = told("s = t", "t = box v u", "u = b", "b = box")
        S = told("p = q", "q = box v r", "r = e", "e = box w e")
        self.so_many(T, "s", S, "p", 2)
        self.no_thing(S, "p", T, "s")

    def test_just_a_hundred_and_more(self):
        for many in (2, 50, 99, 100, 101, 102, 200):
            T = chain_to(many, ("all",))
            S = chain_to(many, ("none",))
            (self.so_many if many <= 100 else self.refused)(T, "raa", S, "raa", many)
            # A pick that is no box, one piece more.
            S = chain_to(many, ("box", ()))
            (self.so_many if many < 100 else self.refused)(T, "raa", S, "raa", many + 1)
            self.no_thing(S, "raa", T, "raa")

    def test_many_thousands(self):
        for many, words in ((15, "ab"), (60, "ab"), (60, "abcde")):
            T = chain_to(many, ("all",), lambda name: ("box", tuple((word, name) for word in words)))
            whole = sum(len(words) ** k for k in range(many))
            self.refused(T, "raa", NONE, "ka", whole)
            S = chain_to(many, ("box", ()), lambda name: ("box", tuple((word, name) for word in words)))
            self.refused(T, "raa", S, "raa", whole + 1)
            self.so_many(ALL, "ka", T, "raa", 1)
            self.no_thing(T, "raa", T, "raa")

    def test_sixty_rows_each(self):
        # The first has its end behind every 59 steps, the second behind every 60.
        called = names(60)
        T, S = [tuple((name, ("pick", (("w", called[(k + 1) % many]),) + ((("x", "end"),) if k == 0 else ())))
                      for k, name in enumerate(called[:many])) + (("end", ("box", ())),) for many in (59, 60)]
        self.so_many(T, "raa", S, "raa", 59 + 2)
        self.so_many(S, "raa", T, "raa", 60 + 2)
        # The second has an end where the first has, but for one that comes as late as both numbers make.
        T = tuple((name, ("pick", (("w", called[(k + 1) % 7]),) + ((("x", "end"),) if k == 3 else ())))
                  for k, name in enumerate(called[:7])) + (("end", ("box", ())),)
        S = tuple((name, ("pick", (("w", called[(k + 1) % 11]),) + ((("x", "end"),) if k != 5 else ())))
                  for k, name in enumerate(called[:11])) + (("end", ("box", ())),)
        late = [k for k in range(77) if k % 7 == 3 and k % 11 == 5]
        self.so_many(T, "raa", S, "raa", late[0] + 2)

    def test_by_chance(self):
        chance = random.Random(72)
        seen = {}
        for turn in range(800):
            T = some_telling(chance, chance.randrange(1, 6), ["v", "w"], THINGS)
            S = with_one_changed(chance, doubled(chance, T), ["v", "w"], THINGS)
            x = chance.choice(T)[0]
            for first, second in (((T, x), (S, x + "a")), ((S, x + "a"), (T, x))):
                # A word that neither has may be needed: none of v and w there, and none that they have.
                known = plain.first_thing(("u", "v", "w"), 4, lambda thing: (
                    plain.is_of(*first, thing) and not plain.is_of(*second, thing)))
                found = parting(*first, *second)
                self.assertEqual(found is None, lies_within(pruned(*first), "ka", *second))
                if found is None:
                    self.assertIsNone(known)
                else:
                    self.assertEqual(known, found[0] if found[0] <= 4 else None)
                    self.so_many(*first, *second, found[0])
                seen[found and found[0]] = seen.get(found and found[0], 0) + 1
        self.assertTrue({None, 1, 2, 3, 4, 5} <= set(seen), seen)

    def test_of_nothing_else_it_is_the_fewest(self):
        chance = random.Random(73)
        for turn in range(200):
            T = some_telling(chance, chance.randrange(1, 20), ["v", "w"], ("box", "pick", "all"))
            x = chance.choice(T)[0]
            found = parting(T, x, NONE, "ka")
            self.assertEqual(found and found[0], fewest(T, x) and fewest(T, x)[0])

    def test_all_things_of_one_are_things_of_the_other_just_where_it_lies_there_pruned(self):
        chance = random.Random(74)
        seen = [0, 0]
        for turn in range(1500):
            T = some_telling(chance, 6, ["v", "w"], THINGS)
            x, y = chance.choice(T)[0], chance.choice(T)[0]
            inside = lies_within(pruned(T, x), "ka", T, y)
            self.assertEqual(parting(T, x, T, y) is None, inside)
            seen[inside] += not lies_within(T, x, T, y)
        self.assertGreater(min(seen), 100)
