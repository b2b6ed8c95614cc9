import random
import unittest

import plain
from coilkind.errors import CoilError, TooMany
from coilkind.roads import end_of, how_many, roads, rows_met, side_of, steps_of
from samples import EACH_HEAD, chain_to, names, ring, some_telling, told

FROM, TO = ("from",), ("to",)
EIGHT = "abcdefgh"


def part(word):
    return ("part", word)


def case(word):
    return ("case", word)


# A kind of lists of ways, with as rows ahead of and between its rows.
LISTS = told(
    "start = list",
    "list = pick cons pair nil unit",
    "again = start",
    "pair = box head item tail again",
    "item = way start any",
    "any = all",
    "unit = box",
    "no = none",
    "apart = way apart list",
)


def wide(*sizes):
    """Boxes behind boxes, of so many words each, and all at the end: as many roads as the sizes' product."""
    called = names(len(sizes))
    rows = []
    for k, size in enumerate(sizes):
        further = called[k + 1] if k + 1 < len(sizes) else "end"
        rows.append((called[k], ("box", tuple((word, further) for word in EIGHT[:size]))))
    return tuple(rows) + (("end", ("all",)),)


def dead_ends():
    """One road of 20 steps, and of 19 steps 8 ** 18 and more."""
    rows = []
    for k in range(20):
        others = tuple((word, f"d{EIGHT[k // 8]}{EIGHT[k % 8]}") for word in EIGHT[1:])
        on = f"r{EIGHT[(k + 1) // 8]}{EIGHT[(k + 1) % 8]}"
        rows.append((f"r{EIGHT[k // 8]}{EIGHT[k % 8]}", ("box", (("a", on),) + (others if k < 18 else ()))))
    for k in range(18):
        further = f"d{EIGHT[(k + 1) // 8]}{EIGHT[(k + 1) % 8]}"
        rows.append((f"d{EIGHT[k // 8]}{EIGHT[k % 8]}", ("box", tuple((word, further) for word in EIGHT))))
    rows += [("dcc", ("none",)), ("rce", ("all",))]
    return tuple(rows)


class Steps(unittest.TestCase):
    def test_each_sort(self):
        self.assertEqual(steps_of(EACH_HEAD, "top"), [part("a"), part("ab"), part("b")])
        self.assertEqual(steps_of(EACH_HEAD, "any"), [])
        self.assertEqual(steps_of(EACH_HEAD, "no"), [])
        self.assertEqual(steps_of(EACH_HEAD, "go"), [FROM, TO])
        self.assertEqual(steps_of(EACH_HEAD, "one"), [])
        self.assertEqual(steps_of(EACH_HEAD, "two"), [])
        self.assertEqual(steps_of(EACH_HEAD, "cases"), [case("z")])

    def test_through_as_rows(self):
        self.assertEqual(steps_of(EACH_HEAD, "as"), [FROM, TO])
        for x in ("start", "list", "again"):
            self.assertEqual(steps_of(LISTS, x), [case("cons"), case("nil")])

    def test_up_to_eight_words(self):
        for many in range(9):
            T = wide(many)
            self.assertEqual(steps_of(T, T[0][0]), [part(word) for word in EIGHT[:many]])

    def test_words_called_like_steps(self):
        T = told("x = box case x from x part x to x", "y = pick case x from x part x to x")
        self.assertEqual(steps_of(T, "x"), [part("case"), part("from"), part("part"), part("to")])
        self.assertEqual(steps_of(T, "y"), [case("case"), case("from"), case("part"), case("to")])

    def test_a_new_list_each_time(self):
        for name, head in EACH_HEAD:
            first = steps_of(EACH_HEAD, name)
            before = list(first)
            first.append(part("more"))
            first[0] = FROM
            self.assertEqual(steps_of(EACH_HEAD, name), before)


class Ends(unittest.TestCase):
    def test_the_empty_road(self):
        for name, head in LISTS:
            self.assertEqual(end_of(LISTS, name, ()), plain.row(LISTS, name))
        self.assertEqual(end_of(LISTS, "start", ()), "list")
        self.assertEqual(end_of(LISTS, "again", ()), "list")

    def test_roads_that_lead_on(self):
        cons, tail, head = case("cons"), part("tail"), part("head")
        self.assertEqual(end_of(LISTS, "start", (cons,)), "pair")
        self.assertEqual(end_of(LISTS, "start", (cons, tail)), "list")
        self.assertEqual(end_of(LISTS, "list", (cons, tail) * 50 + (case("nil"),)), "unit")
        self.assertEqual(end_of(LISTS, "again", (cons, head, FROM)), "list")
        self.assertEqual(end_of(LISTS, "again", (cons, head, TO)), "any")
        self.assertEqual(end_of(LISTS, "pair", (head, FROM, cons, head)), "item")
        self.assertEqual(end_of(LISTS, "apart", (FROM, FROM, FROM)), "apart")
        self.assertEqual(end_of(LISTS, "apart", (FROM, TO)), "list")

    def test_roads_that_lead_nowhere(self):
        for x, road in (("list", (case("none"),)), ("list", (part("cons"),)), ("list", (FROM,)), ("list", (TO,)),
                        ("pair", (case("head"),)), ("pair", (part("cons"),)), ("pair", (FROM,)),
                        ("item", (part("from"),)), ("item", (case("to"),)),
                        ("any", (FROM,)), ("any", (TO,)), ("any", (part("head"),)), ("any", (case("cons"),)),
                        ("no", (FROM,)), ("no", (TO,)), ("no", (part("head"),)), ("no", (case("cons"),)),
                        ("unit", (part("head"),)), ("unit", (case("nil"),)),
                        ("list", (case("nil"), part("head"))), ("list", (case("cons"), case("nil"))),
                        ("list", (case("cons"), FROM, TO)), ("item", (TO, TO)), ("item", (TO, FROM, TO)),
                        ("list", (case("nope"), case("cons"))), ("start", (case("cons"), part("more"), part("tail")))):
            self.assertIsNone(end_of(LISTS, x, road), (x, road))

    def test_small_ones(self):
        chance = random.Random(8)
        steps = [FROM, TO, part("v"), part("w"), case("v"), case("w")]
        for turn in range(300):
            T = some_telling(chance, chance.randrange(1, 6), ["v", "w"])
            x = chance.choice(T)[0]
            for many in range(5):
                road = tuple(chance.choice(steps) for k in range(many))
                self.assertEqual(end_of(T, x, road), plain.end(T, x, road))
            for road in plain.roads_up_to(T, x, 3):
                told_end = end_of(T, x, road)
                self.assertEqual(told_end, plain.end(T, x, road))
                self.assertNotEqual(dict(T)[told_end][0], "as")


class Sides(unittest.TestCase):
    def test_no_from(self):
        for road in ((), (TO,), (TO, TO, TO), (part("from"),), (case("from"), part("w")), (TO, case("w"), TO)):
            self.assertEqual(side_of(road), 1, road)

    def test_odd(self):
        for road in ((FROM,), (TO, FROM), (FROM, TO), (FROM, FROM, FROM), (FROM, part("from"), FROM, TO, FROM)):
            self.assertEqual(side_of(road), -1, road)

    def test_even(self):
        for road in ((FROM, FROM), (FROM, TO, FROM), (part("w"), FROM, case("from"), FROM), (FROM,) * 100):
            self.assertEqual(side_of(road), 1, road)
        for many in range(40):
            self.assertEqual(side_of((FROM,) * many + (TO,)), (-1) ** many)


class HowMany(unittest.TestCase):
    def test_no_steps(self):
        for T in (EACH_HEAD, LISTS):
            for name, head in T:
                self.assertEqual(how_many(T, name, 0), (1, 0))

    def test_one_step(self):
        for name, many in (("top", (3, 0)), ("any", (0, 0)), ("no", (0, 0)), ("go", (1, 1)), ("one", (0, 0)),
                           ("two", (0, 0)), ("cases", (1, 0)), ("as", (1, 1))):
            self.assertEqual(how_many(EACH_HEAD, name, 1), many)

    def test_rings(self):
        box = told("x = box a x b x c x d x e x f x g x h x")
        way = told("x = way x x")
        onward = told("x = way end x", "end = none")
        for n in range(1, 101):
            self.assertEqual(how_many(box, "x", n), (8 ** n, 0))
            self.assertEqual(how_many(way, "x", n), (2 ** (n - 1), 2 ** (n - 1)))
            self.assertEqual(how_many(onward, "x", n), (1, 1))

    def test_sides_turn_to_and_fro(self):
        T = told("x = way y z", "y = way x z", "z = pick")
        for n in range(1, 101):
            self.assertEqual(how_many(T, "x", n), (1, 1))
        T = told("x = box v y w x", "y = way x e", "e = all")
        for n, many in enumerate([(1, 0), (2, 0), (3, 1), (3, 3), (4, 6)]):
            self.assertEqual(how_many(T, "x", n), many)

    def test_roads_that_end(self):
        for many in (1, 2, 60, 100):
            T = chain_to(many + 1, ("none",))
            for n in range(many + 3):
                self.assertEqual(how_many(T, "raa", n), (1 if n <= many else 0, 0))

    def test_as_many_as_there_are(self):
        chance = random.Random(9)
        for turn in range(200):
            T = some_telling(chance, chance.randrange(1, 6), ["u", "v", "w"])
            x = chance.choice(T)[0]
            for n in range(5):
                found = plain.roads(T, x, n)
                odd = len([road for road in found if plain.turned(road)])
                self.assertEqual(how_many(T, x, n), (len(found) - odd, odd))

    def test_far_too_many_to_go_one_by_one(self):
        chance = random.Random(10)
        for turn in range(40):
            T = some_telling(chance, chance.randrange(2, 12), list(EIGHT), ("way", "box", "pick"))
            for n in (20, 50, 99, 100):
                self.assertEqual(how_many(T, T[0][0], n), plain.how_many(T, T[0][0], n))

    def test_two_hundred_rows(self):
        T = ring(200, lambda name: ("way", name, name))
        self.assertEqual(how_many(T, "raa", 100), (2 ** 99, 2 ** 99))
        self.assertEqual(how_many(T, "raa", 101), (2 ** 100, 2 ** 100))


class Roads(unittest.TestCase):
    def refused(self, T, x, n):
        with self.assertRaises(TooMany) as held:
            roads(T, x, n)
        self.assertEqual(held.exception.many, 1000)
        self.assertIsInstance(held.exception, CoilError)

    def test_no_steps(self):
        for name, head in LISTS:
            self.assertEqual(roads(LISTS, name, 0), [()])

    def test_few_steps(self):
        self.assertEqual(roads(EACH_HEAD, "as", 1), [(FROM,), (TO,)])
        self.assertEqual(roads(EACH_HEAD, "go", 2), [(TO, FROM), (TO, TO)])
        self.assertEqual(roads(EACH_HEAD, "any", 1), [])
        self.assertEqual(roads(EACH_HEAD, "one", 1), [])
        self.assertEqual(roads(EACH_HEAD, "cases", 2), [(case("z"), FROM), (case("z"), TO)])
        self.assertEqual(roads(LISTS, "start", 2), [(case("cons"), part("head")), (case("cons"), part("tail"))])

    def test_in_order(self):
        chance = random.Random(11)
        for turn in range(200):
            T = some_telling(chance, chance.randrange(1, 6), ["u", "v", "w"])
            x = chance.choice(T)[0]
            for n in range(5):
                found = plain.roads(T, x, n)
                self.assertEqual(found, sorted(found))
                self.assertEqual(roads(T, x, n), found)

    def test_up_to_twenty_steps(self):
        T = told("x = box w x", "y = way end y", "end = pick", "z = pick v z w same", "same = end")
        for n in range(1, 21):
            self.assertEqual(roads(T, "x", n), [(part("w"),) * n])
            self.assertEqual(roads(T, "y", n), [(TO,) * (n - 1) + (FROM,), (TO,) * n])
            self.assertEqual(roads(T, "z", n), [(case("v"),) * n, (case("v"),) * (n - 1) + (case("w"),)])
            self.assertEqual(roads(T, "end", n), [])

    def test_just_a_thousand(self):
        for sizes in ((8, 5, 5, 5), (5, 5, 5, 8), (1,) * 16 + (8, 5, 5, 5), (8,) + (1,) * 16 + (5, 5, 5)):
            T = wide(*sizes)
            found = roads(T, "raa", len(sizes))
            self.assertEqual(len(found), 1000)
            self.assertEqual(len(set(found)), 1000)
            self.assertEqual(found, sorted(found))
            self.assertEqual({len(road) for road in found}, {len(sizes)})
            for road in found[::97]:
                self.assertEqual(end_of(T, "raa", road), "end")

    def test_one_more_than_a_thousand(self):
        # Seven times 125 roads and once 126.
        pairs = [("a", "more")] + [(word, "less") for word in EIGHT[1:]]
        T = (("x", ("box", tuple(pairs))), ("more", ("as", "p"))) + told(
            "less = box a lb b lb c lb d lb e lb", "lb = box a lc b lc c lc d lc e lc",
            "lc = box a end b end c end d end e end", "end = box",
            "p = box a q b q c q d q e q f q g q", "q = box a r b r c r d r e r f r", "r = box a end b end c end")
        self.assertEqual(sum(how_many(T, "x", 4)), 1001)
        self.refused(T, "x", 4)
        self.assertEqual(len(roads(T, "x", 3)), 7 * 25 + 42)
        self.assertEqual(roads(T, "x", 5), [])

    def test_a_thousand_on_both_sides(self):
        T = told("x = way x x")
        self.assertEqual(len(roads(T, "x", 9)), 512)
        for n in (10, 11, 20):
            self.refused(T, "x", n)

    def test_more_than_could_be_made(self):
        T = wide(*[8] * 20)
        for n in (4, 10, 19, 20):
            self.refused(T, "raa", n)
        self.refused(told("x = box a x b x c x d x e x f x g x h x"), "x", 20)

    def test_few_roads_behind_far_too_many(self):
        T = dead_ends()
        self.assertEqual(how_many(T, "raa", 20), (1, 0))
        self.refused(T, "raa", 18)
        self.assertGreater(sum(how_many(T, "raa", 18)), 8 ** 17)
        self.assertEqual(roads(T, "raa", 20), [(part("a"),) * 20])
        self.assertEqual(roads(T, "raa", 21), [])

    def test_a_new_list_each_time(self):
        first = roads(LISTS, "start", 2)
        before = list(first)
        first.clear()
        self.assertEqual(roads(LISTS, "start", 2), before)

    def test_two_hundred_rows(self):
        T = ring(200, lambda name: ("box", (("v", name), ("w", name))))
        self.assertEqual(roads(T, "raa", 9), sorted(roads(T, "raa", 9)))
        self.assertEqual(len(roads(T, "raa", 9)), 512)
        self.refused(T, "raa", 10)


class RowsMet(unittest.TestCase):
    def test_lists(self):
        cons, head, tail, nil = case("cons"), part("head"), part("tail"), case("nil")
        found = [("list", ()), ("pair", (cons,)), ("unit", (nil,)), ("item", (cons, head)), ("any", (cons, head, TO))]
        for x in ("start", "list", "again"):
            self.assertEqual(rows_met(LISTS, x), found)
        self.assertEqual(rows_met(LISTS, "any"), [("any", ())])
        self.assertEqual(rows_met(LISTS, "no"), [("no", ())])
        self.assertEqual([name for name, road in rows_met(LISTS, "apart")],
                         ["apart", "list", "pair", "unit", "item", "any"])

    def test_the_least_of_several_roads(self):
        T = told("x = box a y b z c z", "y = way w z", "z = box a w", "w = pick a x b t", "t = all")
        self.assertEqual(rows_met(T, "x"), [
            ("x", ()), ("y", (part("a"),)), ("z", (part("b"),)),
            ("w", (part("a"), FROM)), ("t", (part("a"), FROM, case("b")))])

    def test_small_ones(self):
        chance = random.Random(12)
        for turn in range(400):
            T = some_telling(chance, chance.randrange(1, 7), ["v", "w"])
            x = chance.choice(T)[0]
            found = rows_met(T, x)
            self.assertEqual(found, plain.rows_met(T, x))
            self.assertEqual(found, sorted(found, key=lambda pair: (len(pair[1]), pair[1])))
            self.assertIsInstance(found[0], tuple)

    def test_a_new_list_each_time(self):
        first = rows_met(LISTS, "start")
        before = list(first)
        first.pop()
        self.assertEqual(rows_met(LISTS, "start"), before)

    def test_two_hundred_rows(self):
        T = ring(200)
        self.assertEqual(rows_met(T, "raa"), [(name, (part("w"),) * k) for k, name in enumerate(names(200))])
        called = names(200)
        T = chain_to(200, ("all",))[::-1]
        self.assertEqual(rows_met(T, called[100])[-1], (called[-1], (part("w"),) * 99))
