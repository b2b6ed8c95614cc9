"""Tellings of two hundred rows, two at one call, and told ones of more."""

import random
import time
import unittest

from coilkind.alike import alike, are_alike, classes, is_alike_paper
from coilkind.bounds import joined, met
from coilkind.cuts import height, over, under
from coilkind.errors import TooMany
from coilkind.least import least, name_of, put_together
from coilkind.pruning import parting, pruned
from coilkind.roads import end_of, how_many, roads, rows_met, steps_of
from coilkind.tellings import is_telling
from coilkind.things import fewest, how_many_things, is_of, pieces
from coilkind.within import is_within_paper, lies_within, within
from samples import chain_to, names, ring, some_telling

EIGHT = "abcdefgh"
W = ("part", "w")


def wide_ring(seed, words, sort="box"):
    """Two hundred rows of one sort with the same words, leading anywhere: all are alike, in many pairs."""
    chance = random.Random(seed)
    called = names(200)
    return tuple((name, (sort, tuple((word, chance.choice(called)) for word in words))) for name in called)


def ways(seed):
    """Two hundred ways, leading anywhere."""
    chance = random.Random(seed)
    called = names(200)
    return tuple((name, ("way", chance.choice(called), chance.choice(called))) for name in called)


def as_chain():
    """As rows, each naming the next one, and a ring of one row at their end."""
    called = names(200)
    return tuple((name, ("as", called[k + 1])) for k, name in enumerate(called[:-1])) + (
        (called[-1], ("box", (("w", "raa"),))),)


class TwoHundredRows(unittest.TestCase):
    def both_papers(self, T, S, fewest):
        x, y = T[0][0], S[0][0]
        word, paper = alike(T, x, S, y)
        self.assertEqual(word, "alike")
        self.assertGreaterEqual(len(paper), fewest)
        self.assertIs(is_alike_paper(T, x, S, y, paper), True)
        self.assertIs(is_alike_paper(T, x, S, y, paper[:-1]), False)
        self.assertIs(are_alike(T, x, S, y), True)
        word, paper = within(T, x, S, y)
        self.assertEqual(word, "within")
        self.assertGreaterEqual(len(paper), fewest)
        self.assertIs(is_within_paper(T, x, S, y, paper), True)
        self.assertIs(is_within_paper(T, x, S, y, paper[:-1]), False)
        self.assertIs(lies_within(T, x, S, y), True)

    def test_rings(self):
        self.both_papers(ring(199), ring(200), 199 * 200)

    def test_many_words(self):
        for sort in ("box", "pick"):
            self.both_papers(wide_ring(1, EIGHT, sort), wide_ring(2, EIGHT, sort), 30000)

    def test_ways(self):
        self.both_papers(ways(3), ways(4), 15000)

    def test_as_rows(self):
        self.both_papers(as_chain(), as_chain()[::-1], 1)
        self.both_papers(as_chain(), ring(200), 200)

    def test_parted_at_the_far_end(self):
        # The first comes to its pick behind every 199 steps, the second behind every 200.
        T = tuple((name, ("pick" if k == 198 else "box", head[1])) for k, (name, head) in enumerate(ring(199)))
        S = tuple((name, ("pick" if k == 199 else "box", head[1])) for k, (name, head) in enumerate(ring(200)))
        self.assertEqual(alike(T, "raa", S, "raa"), ("unlike", (W,) * 198))
        self.assertEqual(within(T, "raa", S, "raa"), ("beyond", (W,) * 198))
        # The one has a part more in its first row alone, the other one in each but one.
        T = tuple((name, ("box", head[1] if k else (("v", "raa"),) + head[1]))
                  for k, (name, head) in enumerate(ring(199)))
        S = tuple((name, ("box", head[1] if k == 7 else (("v", "raa"),) + head[1]))
                  for k, (name, head) in enumerate(ring(200)))
        # Behind v both are at their first rows again, so the first road by w alone that comes to these rows is bad.
        many = [k for k in range(199 * 200) if k % 199 == 0 and k % 200 == 7]
        self.assertEqual(many, [38407])
        self.assertEqual(within(S, "raa", T, "raa"), ("beyond", (W,) * 38407))
        self.assertEqual(within(T, "raa", S, "raa"), ("beyond", (W,)))

    def test_all_told_of_one(self):
        T = wide_ring(5, EIGHT)
        self.assertEqual(steps_of(T, "raa"), [("part", word) for word in EIGHT])
        self.assertEqual(how_many(T, "raa", 100), (8 ** 100, 0))
        self.assertEqual(len(roads(T, "raa", 3)), 512)
        self.assertEqual(len(rows_met(T, "raa")), len({row for row, road in rows_met(T, "raa")}))
        self.assertEqual(classes(T), [names(200)])
        self.assertEqual(len(least(T, "raa")), 1)
        self.assertEqual(classes(as_chain()), [names(200)])
        self.assertEqual(end_of(as_chain(), "raa", (W,) * 300), names(200)[-1])

    def test_classes_and_least_tellings_by_chance(self):
        chance = random.Random(6)
        for turn in range(3):
            T = some_telling(chance, 200, list(EIGHT), ("box", "pick", "way", "all"))
            for one in classes(T):
                self.assertTrue(all(are_alike(T, one[0], T, name) for name in one))
            firsts = [one[0] for one in classes(T)]
            for x, y in zip(firsts, firsts[1:]):
                self.assertFalse(are_alike(T, x, T, y))
            found = least(T, T[0][0])
            self.assertTrue(are_alike(T, T[0][0], found, "ka"))
            self.assertEqual(len(classes(found)), len(found))


def beating(many, sort="box"):
    """A ring whose part v is none at its first row, all at the others."""
    called = names(many)
    return tuple((name, (sort, (("v", "all" if k else "none"), ("w", called[(k + 1) % many]))))
                 for k, name in enumerate(called)) + (("all", ("all",)), ("none", ("none",)))


def way_ring(many):
    """A ring of ways whose second kind is none at its first row, all at the others."""
    called = names(many)
    return tuple((name, ("way", called[(k + 1) % many], "all" if k else "none")) for k, name in enumerate(called)) + (
        ("all", ("all",)), ("none", ("none",)))


class BoundsOfTwoHundredRows(unittest.TestCase):
    def look(self, T, x, S, y):
        up, down = joined(T, x, S, y), met(T, x, S, y)
        for R, z in ((T, x), (S, y)):
            self.assertTrue(lies_within(R, z, up, "ka"))
            self.assertTrue(lies_within(down, "ka", R, z))
        return up, down

    def test_as_many_rows_as_both_numbers_make(self):
        T, S = beating(197), beating(198)
        up, down = self.look(T, "raa", S, "raa")
        self.assertEqual(len(up), 197 * 198 + 2)
        self.assertEqual(len(down), 197 * 198 + 2)
        # Told ones, handed in again.
        self.assertEqual(met(up, "ka", T, "raa"), least(T, "raa"))
        self.assertEqual(joined(S, "raa", down, "ka"), least(S, "raa"))
        self.assertEqual(joined(up, "ka", down, "ka"), up)
        self.assertIsNone(height(up, "ka"))
        self.assertEqual(len(over(up, "ka", 12)), 12 + 3 - 1)
        self.assertIsNone(fewest(up, "ka"))
        self.assertEqual(pruned(up, "ka"), (("ka", ("none",)),))
        self.assertIsNone(parting(up, "ka", down, "ka"))

    def test_ways(self):
        T, S = way_ring(97), way_ring(98)
        up, down = self.look(T, "raa", S, "raa")
        # At each road both sides are come to, as the lengths of rings aren't both even.
        self.assertGreater(len(up), 97 * 98)
        self.assertEqual(met(up, "ka", T, "raa"), least(T, "raa"))
        self.assertEqual(joined(down, "ka", T, "raa"), least(T, "raa"))

    def test_rings_that_are_alike(self):
        for T, S in ((ring(199), ring(200)), (wide_ring(7, EIGHT), wide_ring(8, EIGHT)), (ways(9), ways(10)),
                     (as_chain(), ring(200))):
            self.assertEqual(self.look(T, T[0][0], S, S[0][0]), (least(T, T[0][0]), least(S, S[0][0])))

    def test_by_chance(self):
        chance = random.Random(11)
        for turn in range(10):
            T, S = [some_telling(chance, 200, list("abcde"), ("box", "pick", "way", "pick") if turn % 2 else ("box",))
                    for k in range(2)]
            self.look(T, T[0][0], S, S[0][0])


class CutsAndThingsOfTwoHundredRows(unittest.TestCase):
    def test_cuts(self):
        chance = random.Random(12)
        for turn in range(5):
            T = some_telling(chance, 200, list("abcde"), ("box", "pick", "way"))
            x = T[0][0]
            for n in (0, 1, 5, 12):
                self.assertTrue(lies_within(T, x, over(T, x, n), "ka"))
                self.assertTrue(lies_within(under(T, x, n), "ka", T, x))
                self.assertEqual(over(over(T, x, 12), "ka", n), over(T, x, n))
        self.assertEqual(height(over(wide_ring(13, EIGHT), "raa", 12), "ka"), 12)

    def test_as_rows(self):
        self.assertEqual(under(as_chain(), "raa", 3), under(ring(1), "raa", 3))
        self.assertEqual(joined(as_chain(), "raa", ring(2), "raa"), least(ring(1), "raa"))
        self.assertFalse(is_of(as_chain(), "raa", ("box", ())))
        self.assertIsNone(height(as_chain(), "raa"))

    def test_things(self):
        T = chain_to(200, ("all",), lambda name: ("pick", (("v", name), ("w", "all")))) + (("all", ("box", ())),)
        thing = ("pick", "w", ("box", ()))
        for turn in range(9):
            self.assertTrue(is_of(T, "raa", thing))
            self.assertFalse(is_of(T, "raa", ("box", (("v", thing),))))
            self.assertFalse(is_of(T, "raa", ("pick", "w", thing)))
            thing = ("pick", "v", thing)
        self.assertEqual(fewest(T, "raa"), (2, ("pick", "w", ("box", ()))))

    def test_things_of_sixty_rows_each(self):
        called = names(60)
        T, S = [tuple((name, ("pick", (("u", called[(k + 1) % many]), ("v", called[(k * 7 + 1) % many]),
                                       ("w", "end"))))
                      for k, name in enumerate(called[:many])) + (("end", ("box", ())),) for many in (59, 60)]
        self.assertIsNone(parting(T, "raa", S, "raa"))
        R = tuple((name, head if name != called[59] else ("pick", head[1][:2])) for name, head in S)
        many, thing = parting(T, "raa", R, "raa")
        self.assertEqual(pieces(thing), many)
        self.assertTrue(is_of(T, "raa", thing))
        self.assertFalse(is_of(R, "raa", thing))
        whole = joined(T, "raa", R, "raa")
        self.assertIsNone(parting(R, "raa", whole, "ka"))
        self.assertEqual(parting(whole, "ka", R, "raa")[0], many)
        self.assertEqual(pruned(whole, "ka"), whole)

    def test_told_ones_with_things(self):
        T, S = [chain_to(many, ("box", ()), lambda name: ("pick", (("v", "raa"), ("w", name)))) for many in (58, 60)]
        whole = met(T, "raa", S, "raa")
        self.assertIsNone(fewest(whole, "ka"))
        whole = joined(T, "raa", S, "raa")
        self.assertEqual(fewest(whole, "ka")[0], 58)
        self.assertIsNone(parting(T, "raa", whole, "ka"))
        self.assertEqual(parting(whole, "ka", S, "raa")[0], 58)
        T, S = [chain_to(many, ("all",), lambda name: ("box", (("v", name), ("w", name)))) for many in (58, 60)]
        with self.assertRaises(TooMany) as caught:
            fewest(met(T, "raa", S, "raa"), "ka")
        self.assertEqual(caught.exception.many, 2 ** 60 - 1)
        self.assertEqual(how_many_things(met(T, "raa", S, "raa"), "ka", ["v", "w"], 10), 0)
        T, S = beating(59, "pick"), beating(61, "pick")
        whole = joined(T, "rab", S, "raa")
        self.assertEqual(len(whole), 59 * 61 + 2)
        self.assertEqual(how_many_things(whole, "ka", ["v"], 10), 2 ** 8)
        self.assertEqual(parting(whole, "ka", S, "raa"), (2, ("pick", "v", ("box", ()))))


class MoreThanTwoHundredRows(unittest.TestCase):
    def setUp(self):
        ends = [("all",), ("none",), ("box", ()), ("pick", ())]
        self.kinds = [(word, chain_to(200, ends[k % 4], self.onward("box" if k < 4 else "pick")))
                      for k, word in enumerate(EIGHT)]
        self.T = put_together("box", self.kinds)

    def onward(self, sort):
        return lambda name: (sort, (("w", name),))

    def test_told_and_handed_in(self):
        T = self.T
        # The ends of the first four chains are those of the others.
        self.assertEqual(len(T), 1 + 8 * 199 + 4)
        self.assertFalse(is_telling(T))
        self.assertEqual([name for name, head in T], [name_of(k) for k in range(len(T))])
        self.assertEqual(least(T, "ka"), T)
        self.assertEqual(len(rows_met(T, "ka")), len(T))
        self.assertEqual(how_many(T, "ka", 100), (8, 0))
        self.assertEqual(len(roads(T, "ka", 20)), 8)
        self.assertEqual(classes(T), [[name] for name, head in T])
        for word, kind in self.kinds:
            first = end_of(T, "ka", (("part", word),))
            self.assertTrue(are_alike(T, first, kind, kind[0][0]))
            self.assertTrue(lies_within(T, first, kind, kind[0][0]))
        self.assertEqual(alike(T, "kb", T, "kc"), ("unlike", (W,) * 199))
        self.assertEqual(within(T, "kb", T, "kc"), ("beyond", (W,) * 199))
        self.assertEqual(within(T, "kc", T, "kb")[0], "within")

    def test_two_of_them(self):
        T, S = self.T, put_together("box", self.kinds)
        self.assertEqual(T, S)
        word, paper = alike(T, "ka", S, "ka")
        self.assertEqual((word, len(paper)), ("alike", len(T)))
        self.assertIs(is_alike_paper(T, "ka", S, "ka", paper), True)
        word, paper = within(T, "ka", S, "ka")
        self.assertEqual((word, len(paper)), ("within", len(T)))
        self.assertIs(is_within_paper(T, "ka", S, "ka", paper), True)

    def test_laid_together(self):
        whole = put_together("way", [self.T, self.T])
        self.assertEqual(len(whole), 1 + len(self.T))
        self.assertEqual(least(whole, "kb"), self.T)
        more = put_together("pick", [("v", whole), ("w", put_together("box", self.kinds[:4]))])
        self.assertEqual(least(more, "ka"), more)
        self.assertEqual(len(more), len(whole) + 2)

    def test_long_chains_take_no_long_time(self):
        # Rows parted only behind as many steps as there are rows: to part them round by round takes far longer.
        rows = tuple((name_of(k), ("box", (("w", name_of(k + 1)),))) for k in range(6000)) + (("kiwu", ("all",)),)
        self.assertEqual(name_of(6000), "kiwu")
        begun = time.process_time()
        self.assertEqual(least(rows, "ka"), rows)
        self.assertLess(time.process_time() - begun, 20)
