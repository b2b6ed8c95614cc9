import itertools
import random
import unittest

import plain
from coilkind.alike import alike, are_alike, classes, is_alike_paper
from samples import chain_to, doubled, names, ring, small_heads, some_telling, told, with_one_changed

FROM, TO = ("from",), ("to",)
V, W = ("part", "v"), ("part", "w")

SORTS = told("a = all", "n = none", "w = way a a", "b = box", "p = pick")


class Checked(unittest.TestCase):
    def alike(self, T, x, S, y):
        """Both ways about, with a paper that is right and that nobody keeps."""
        for first, second in (((T, x), (S, y)), ((S, y), (T, x))):
            word, paper = alike(*first, *second)
            self.assertEqual(word, "alike")
            self.assertIsInstance(paper, list)
            self.assertIs(is_alike_paper(*first, *second, paper), True)
            self.assertIs(are_alike(*first, *second), True)
        return paper

    def unlike(self, T, x, S, y, road):
        """The same road both ways about."""
        self.assertEqual(alike(T, x, S, y), ("unlike", road))
        self.assertEqual(alike(S, y, T, x), ("unlike", road))
        self.assertIs(are_alike(T, x, S, y), False)
        self.assertIs(are_alike(S, y, T, x), False)


class Alike(Checked):
    def test_each_with_itself(self):
        for name, head in SORTS:
            self.alike(SORTS, name, SORTS, name)

    def test_the_same_head_in_another_telling(self):
        S = told("p = all", "q = none", "r = way s s", "s = p", "t = box", "u = pick")
        for x, y in zip("anwbp", "pqrtu"):
            self.alike(SORTS, x, S, y)
        self.alike(SORTS, "a", S, "s")

    def test_as_rows(self):
        T = told("a = b", "b = c", "c = way a d", "d = c")
        for x, y in itertools.product("abcd", repeat=2):
            self.alike(T, x, T, y)
        self.alike(T, "a", told("x = way x x"), "x")

    def test_rings_of_unlike_lengths(self):
        for n, m in itertools.product((1, 2, 3, 4, 6, 7), repeat=2):
            self.alike(ring(n), "raa", ring(m), "raa")
            self.alike(ring(n), names(n)[-1], ring(m), names(m)[m // 2])

    def test_a_ring_of_two_sorts(self):
        T = told("x = box w y", "y = pick w x")
        S = told("a = box w b", "b = pick w c", "c = box w d", "d = pick w a")
        for x, y in (("x", "a"), ("x", "c"), ("y", "b"), ("y", "d")):
            self.alike(T, x, S, y)
        for x, y in (("x", "b"), ("x", "d"), ("y", "a"), ("y", "c")):
            self.unlike(T, x, S, y, ())

    def test_unfolded_once(self):
        T = told("list = pick cons pair nil unit", "pair = box head any tail list", "unit = box", "any = all")
        S = told("first = pick cons one nil end", "one = box head every tail second",
                 "second = pick cons two nil other", "two = box head every tail first", "every = all",
                 "end = box", "other = end")
        for x, y in (("list", "first"), ("list", "second"), ("pair", "one"), ("pair", "two"), ("unit", "other")):
            self.alike(T, x, S, y)
        self.alike(S, "first", S, "second")

    def test_words_are_asked_whatever_the_rows_are_called(self):
        self.alike(told("x = box v y w x", "y = all"), "x", told("y = box v x w y", "x = all"), "y")

    def test_the_paper_by_itself(self):
        T = told("s = x", "x = way x y", "y = all")
        self.assertEqual(sorted(set(self.alike(T, "s", T, "x"))), [("x", "x"), ("y", "y")])


class Unlike(Checked):
    def test_by_sorts(self):
        for x, y in itertools.combinations("anwbp", 2):
            self.unlike(SORTS, x, SORTS, y, ())

    def test_by_words(self):
        T = told("a = all", "o = box", "v = box v a", "w = box w a", "b = box v a w a",
                 "p = pick", "pv = pick v a", "pw = pick w a", "pb = pick v a w a")
        for group in (["o", "v", "w", "b"], ["p", "pv", "pw", "pb"]):
            for x, y in itertools.combinations(group, 2):
                self.unlike(T, x, T, y, ())
        for x, y in zip(["o", "v", "w", "b"], ["p", "pv", "pw", "pb"]):
            self.unlike(T, x, T, y, ())

    def test_behind_a_step(self):
        for line, step in (("way z a", FROM), ("way a z", TO), ("box v a w z", W), ("box v z w a", V),
                           ("pick v z w a", ("case", "v")), ("pick v a w z", ("case", "w"))):
            T = told(f"x = {line}", "z = all", "a = box")
            S = told(f"x = {line}", "z = s", "s = none", "a = box")
            self.unlike(T, "x", S, "x", (step,))

    def test_the_least_of_several(self):
        base = told("x = way y y", "y = box v z w z", "z = pick u t v t w t", "t = all")
        other = told("x = way y y", "y = box v z w z", "z = pick u t v t w t", "t = none")
        self.unlike(base, "x", other, "x", (FROM, V, ("case", "u")))
        some = told("x = way y p", "y = box v z w q", "z = pick u t v t w t", "t = all", "p = y",
                    "q = pick u t v n w n", "n = none")
        self.unlike(base, "x", some, "x", (FROM, W, ("case", "v")))
        late = told("x = way p y", "y = box v z w q", "z = pick u t v t w t", "t = all", "p = box v z w z",
                    "q = pick u t v t w n", "n = none")
        self.unlike(base, "x", late, "x", (TO, W, ("case", "w")))

    def test_the_shorter_ahead(self):
        T = told("x = box v y w z", "y = box v a", "z = all", "a = all")
        S = told("x = box v y w z", "y = box v a", "z = none", "a = none")
        self.unlike(T, "x", S, "x", (W,))
        S = told("x = box v y w z", "y = box v a", "z = all", "a = none")
        self.unlike(T, "x", S, "x", (V, V))

    def test_chains(self):
        for many in (2, 3, 50, 200):
            self.unlike(chain_to(many, ("all",)), "raa", chain_to(many, ("none",)), "raa", (W,) * (many - 1))
            self.unlike(chain_to(many, ("all",)), "raa", ring(many), "raa", (W,) * (many - 1))
            self.unlike(chain_to(many, ("all",)), "raa", chain_to(many, ("all",)), "rab", (W,) * (many - 2))


class ByChance(Checked):
    def test_small_ones(self):
        chance = random.Random(13)
        seen = {"alike": 0, "unlike": 0}
        for turn in range(1500):
            T = some_telling(chance, chance.randrange(1, 4), ["v", "w"])
            S = some_telling(chance, chance.randrange(1, 4), ["v", "w"]) if turn % 3 else T
            x, y = chance.choice(T)[0], chance.choice(S)[0]
            road = plain.parting(T, x, S, y)
            self.assertEqual(road, plain.parting_by_pairs(T, x, S, y))
            seen[alike(T, x, S, y)[0]] += 1
            if road is None:
                self.assertTrue(plain.is_alike_paper(T, x, S, y, self.alike(S, y, T, x)))
            else:
                self.unlike(T, x, S, y, road)
        self.assertGreater(min(seen.values()), 100)

    def test_two_rows_of_boxes(self):
        heads = small_heads("xy", ["v", "w"], ("all", "box"))
        tellings = [tuple(zip("xy", two)) for two in itertools.product(heads, repeat=2)]
        for T, S in itertools.product(tellings[::2], tellings[::3]):
            road = plain.parting_by_pairs(T, "x", S, "x")
            self.assertEqual(alike(T, "x", S, "x") if road else are_alike(T, "x", S, "x"),
                             ("unlike", road) if road else road is None)

    def test_doubled_and_changed(self):
        chance = random.Random(14)
        roads = set()
        for turn in range(300):
            sorts = ("way", "box", "pick") if turn % 2 else ("box", "all")
            T = some_telling(chance, chance.randrange(2, 12), ["u", "v", "w"], sorts)
            x = chance.choice(T)[0]
            S = doubled(chance, T)
            for y in (x + "a", x + "b", x + "s"):
                self.assertTrue(plain.is_alike_paper(T, x, S, y, self.alike(S, y, T, x)))
            other = with_one_changed(chance, S, ["u", "v", "w"], sorts)
            for y in (x + "a", x + "b"):
                road = plain.parting_by_pairs(T, x, other, y)
                roads.add(road)
                if road is None:
                    self.alike(T, x, other, y)
                else:
                    self.unlike(T, x, other, y, road)
        self.assertGreater(max(len(road) for road in roads if road is not None), 4)


class Papers(unittest.TestCase):
    T = told("s = x", "x = way y z", "y = box w x", "z = all", "q = box w x", "n = none")
    S = told("a = way b c", "b = box w d", "c = all", "d = way b c", "e = a")
    PAPER = [("x", "a"), ("y", "b"), ("z", "c"), ("x", "d")]

    def right(self, paper, x="x", y="a"):
        self.look(paper, x, y, True)

    def wrong(self, paper, x="x", y="a"):
        self.look(paper, x, y, False)

    def look(self, paper, x, y, answer):
        """Asked twice, and the paper is the same behind it."""
        before = list(paper)
        self.assertEqual(plain.is_alike_paper(self.T, x, self.S, y, paper), answer)
        for turn in range(2):
            self.assertIs(is_alike_paper(self.T, x, self.S, y, paper), answer, paper)
        self.assertEqual(paper, before)

    def test_right_ones(self):
        for order in itertools.permutations(self.PAPER):
            self.right(list(order))
        for x, y in (("s", "a"), ("s", "e"), ("x", "e"), ("y", "b"), ("z", "c"), ("x", "d"), ("s", "d")):
            self.right(self.PAPER, x, y)
        self.right([("z", "c")], "z", "c")

    def test_a_pair_twice(self):
        self.right(self.PAPER + self.PAPER)

    def test_a_right_pair_more(self):
        self.right(self.PAPER + [("q", "b")])
        self.right([("q", "b")] + self.PAPER)

    def test_a_wrong_pair_more(self):
        for pair in (("x", "b"), ("y", "a"), ("z", "a"), ("n", "c"), ("x", "c"), ("n", "a")):
            self.wrong(self.PAPER + [pair])
            self.wrong([pair] + self.PAPER)

    def test_a_pair_whose_ends_are_missing(self):
        self.wrong([("z", "c"), ("x", "a")], "z", "c")
        self.wrong([("z", "c"), ("y", "b")], "z", "c")

    def test_a_pair_fewer(self):
        for at in range(4):
            self.wrong(self.PAPER[:at] + self.PAPER[at + 1:])
        self.wrong([("x", "a")])

    def test_the_first_pair_is_missing(self):
        self.wrong([("z", "c")])
        self.wrong(self.PAPER, "q", "b")
        self.wrong(self.PAPER, "n", "c")
        self.wrong(self.PAPER, "x", "b")

    def test_turned_about(self):
        self.wrong([(b, a) for a, b in self.PAPER])
        self.wrong(self.PAPER + [("a", "x")])
        T = told("x = box w y", "y = all")
        S = told("y = all", "x = box w z", "z = all")
        self.assertIs(is_alike_paper(T, "x", S, "x", [("x", "x"), ("y", "z")]), True)
        self.assertIs(is_alike_paper(T, "x", S, "x", [("x", "x"), ("z", "y")]), False)

    def test_names_of_as_rows(self):
        self.wrong(self.PAPER + [("s", "a")])
        self.wrong(self.PAPER + [("x", "e")])
        self.wrong(self.PAPER + [("s", "e")])
        self.wrong([("s", "a")] + self.PAPER[1:], "s", "a")
        self.wrong([("s", "e")] + self.PAPER, "s", "e")

    def test_names_that_there_are_not(self):
        for pair in (("x", "zz"), ("zz", "a"), ("zz", "zz"), ("", ""), ("all", "all"), ("a", "a"), ("A b", "\n")):
            self.wrong(self.PAPER + [pair])
            self.wrong([pair])

    def test_an_empty_one(self):
        for x, y in (("x", "a"), ("z", "c"), ("n", "c")):
            self.wrong([], x, y)

    def test_all_of_small_tellings(self):
        T = told("x = box w y", "y = box w x", "s = x")
        pairs = list(itertools.product("xys", repeat=2))
        for many in range(5):
            for paper in itertools.combinations(pairs, many):
                for x, y in (("x", "x"), ("x", "y"), ("s", "y")):
                    self.assertIs(is_alike_paper(T, x, T, y, list(paper)),
                                  plain.is_alike_paper(T, x, T, y, list(paper)))

    def test_unlike_kinds_have_none(self):
        T = told("x = box v x w y", "y = all", "z = box v z w n", "n = none")
        pairs = list(itertools.product("xyzn", repeat=2))
        for many in range(4):
            for paper in itertools.combinations(pairs, many):
                self.assertIs(is_alike_paper(T, "x", T, "z", list(paper)), False)

    def test_a_told_list_is_the_askers_own(self):
        first = alike(self.T, "x", self.S, "a")[1]
        before = list(first)
        first.clear()
        self.assertEqual(alike(self.T, "x", self.S, "a"), ("alike", before))


class Classes(unittest.TestCase):
    def test_one_row(self):
        for head in (("all",), ("none",), ("box", ()), ("pick", ()), ("way", "x", "x")):
            self.assertEqual(classes((("x", head),)), [["x"]])

    def test_each_sort_by_itself(self):
        self.assertEqual(classes(SORTS), [["a"], ["n"], ["w"], ["b"], ["p"]])

    def test_as_rows_among_them(self):
        T = told("s = x", "x = way x x", "n = none", "t = s", "y = way t x", "m = n")
        self.assertEqual(classes(T), [["s", "x", "t", "y"], ["n", "m"]])

    def test_the_order_of_rows(self):
        T = told("z = all", "b = none", "y = all", "a = none", "x = box", "c = all")
        self.assertEqual(classes(T), [["z", "y", "c"], ["b", "a"], ["x"]])
        self.assertEqual(classes(T[::-1]), [["c", "y", "z"], ["x"], ["a", "b"]])

    def test_parted_behind_many_steps(self):
        T = chain_to(60, ("all",))
        self.assertEqual(classes(T), [[name] for name in names(60)])
        self.assertEqual(classes(T[::-1]), [[name] for name in names(60)[::-1]])

    def test_rings(self):
        for many in (1, 2, 7, 60):
            self.assertEqual(classes(ring(many)), [names(many)])
        # Every third row of the ring is a pick.
        called = names(60)
        T = tuple((name, ("pick" if k % 3 == 0 else head[0], head[1])) for k, (name, head) in enumerate(ring(60)))
        self.assertEqual(classes(T), [called[0::3], called[1::3], called[2::3]])

    def test_by_chance(self):
        chance = random.Random(15)
        for turn in range(300):
            sorts = ("all", "none", "way", "box", "pick") if turn % 2 else ("way", "box")
            T = some_telling(chance, chance.randrange(1, 6), ["v", "w"], sorts)
            if turn % 3 == 0:
                T = doubled(chance, T)
            self.assertEqual(classes(T), self.by_pairs(T))

    def by_pairs(self, T):
        """Each name behind those ahead, by whether no road parts it from the first of a list."""
        lists = []
        for name, head in T:
            for one in lists:
                if plain.parting_by_pairs(T, one[0], T, name) is None:
                    one.append(name)
                    break
            else:
                lists.append([name])
        return lists

    def test_larger_ones(self):
        chance = random.Random(16)
        for turn in range(20):
            T = some_telling(chance, 40, ["v", "w"], ("box", "box", "box", "way", "all"))
            self.assertEqual(classes(T), self.by_pairs(T))

    def test_lists_are_the_askers_own(self):
        first = classes(SORTS)
        first[0].append("more")
        first.pop()
        self.assertEqual(classes(SORTS), [["a"], ["n"], ["w"], ["b"], ["p"]])
