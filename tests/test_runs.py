import random
import unittest

import plain_makers
from coilkind.errors import CoilError, TooMany
from coilkind.kinding import kind_of
from coilkind.makers import is_maker, maker_at
from coilkind.runs import run, thing_of
from coilkind.things import is_of, is_thing
from coilkind.within import lies_within
from some_makers import NIL, ROUND, T, UNIT, box, call, cons, fn, get, hold, part, pick, some_maker, split

ROWS = [name for name, head in T]
SAME = fn("x", "a", get("x"))
ONCE = call(SAME, UNIT)


class Checked(unittest.TestCase):
    def runs(self, maker, n, *known):
        found = run(maker, n)
        self.assertEqual(found, known, maker)
        self.assertEqual(plain_makers.run(maker, n), found)

    def one_step(self, maker, other):
        """Done in one step, not ahead of it, wherever it stands."""
        for outer, place in ((lambda m: m, ()), (lambda m: box(v=NIL, w=m), (1,)), (lambda m: pick("w", m), (0,)),
                             (lambda m: call(m, ONCE), (0,)), (lambda m: call(SAME, m), (1,)),
                             (lambda m: part(m, "w"), (0,)), (lambda m: hold(m, "a"), (0,)),
                             (lambda m: split(m, w=("x", get("x"))), (0,))):
            self.assertEqual(run(outer(maker), 0), (outer(maker), 0, ("on",)))
            found = run(outer(maker), 1)
            self.assertEqual(found[:2], (outer(other), 1))
            self.assertEqual(plain_makers.run(outer(maker), 1), found)

    def value(self, maker):
        for n in (0, 1, 200):
            self.runs(maker, n, maker, 0, ("value",))

    def stuck(self, maker, place=()):
        for n in (0, 1, 200):
            self.runs(maker, n, maker, 0, ("stuck", place))
            # Wherever it stands, its place is told from the outermost on.
            for outer, ahead in ((box(v=NIL, w=maker), (1,)), (pick("w", maker), (0,)), (call(maker, ONCE), (0,)),
                                 (call(SAME, maker), (1,)), (part(box(v=maker), "v"), (0, 0)), (hold(maker, "a"), (0,)),
                                 (split(pick("v", maker), v=("x", ONCE)), (0, 0))):
                self.runs(outer, n, outer, 0, ("stuck", ahead + place))

    def refused(self, maker, n, many):
        with self.assertRaises(TooMany) as caught:
            run(maker, n)
        self.assertEqual(caught.exception.many, many)
        self.assertIsInstance(caught.exception, CoilError)
        self.assertEqual(plain_makers.run(maker, n), many)


class Steps(Checked):
    def test_values(self):
        for maker in (UNIT, NIL, SAME, box(v=UNIT, w=SAME), pick("w", SAME), cons(UNIT, cons(SAME, NIL)),
                      fn("x", "a", ONCE), fn("x", "a", part(UNIT, "w")), box(v=fn("x", "a", ROUND))):
            self.value(maker)

    def test_call(self):
        self.one_step(ONCE, UNIT)
        self.one_step(call(fn("x", "a", UNIT), NIL), UNIT)
        self.one_step(call(fn("x", "n", box(v=get("x"), w=get("x"))), NIL), box(v=NIL, w=NIL))
        self.one_step(call(fn("x", "a", get("x")), fn("y", "a", get("y"))), fn("y", "a", get("y")))
        self.one_step(call(fn("x", "a", hold(part(get("x"), "v"), "a")), box(v=UNIT)), hold(part(box(v=UNIT), "v"), "a"))
        self.one_step(call(fn("x", "a", call(get("x"), pick("w", get("x")))), SAME), call(SAME, pick("w", SAME)))

    def test_a_name_bound_again_within(self):
        inner = fn("x", "a", get("x"))
        self.one_step(call(fn("x", "a", box(v=inner, w=get("x"))), NIL), box(v=inner, w=NIL))
        self.one_step(call(fn("x", "a", fn("y", "a", box(v=get("x"), w=get("y")))), NIL),
                      fn("y", "a", box(v=NIL, w=get("y"))))
        cases = {"no": ("x", get("x")), "yes": ("y", get("x"))}
        self.one_step(call(fn("x", "a", split(get("x"), **cases)), NIL),
                      split(NIL, no=("x", get("x")), yes=("y", NIL)))
        self.one_step(call(fn("x", "a", fn("y", "a", fn("x", "a", box(v=get("x"), w=get("y"))))), NIL),
                      fn("y", "a", fn("x", "a", box(v=get("x"), w=get("y")))))

    def test_part(self):
        self.one_step(part(box(u=UNIT, v=NIL, w=SAME), "v"), NIL)
        self.one_step(part(box(u=UNIT, v=NIL, w=SAME), "u"), UNIT)
        self.one_step(part(box(u=UNIT, v=NIL, w=SAME), "w"), SAME)

    def test_split(self):
        cases = {"cons": ("x", part(get("x"), "tail")), "nil": ("y", pick("w", get("y")))}
        self.one_step(split(NIL, **cases), pick("w", UNIT))
        self.one_step(split(cons(UNIT, NIL), **cases), part(box(head=UNIT, tail=NIL), "tail"))
        self.one_step(split(pick("w", UNIT), v=("x", get("z")), w=("x", NIL)), NIL)

    def test_a_name_bound_again_within_a_split(self):
        self.one_step(split(NIL, nil=("x", box(v=fn("x", "a", get("x")), w=get("x")))),
                      box(v=fn("x", "a", get("x")), w=UNIT))
        self.one_step(split(NIL, nil=("x", split(get("x"), v=("x", get("x")), w=("y", get("x"))))),
                      split(UNIT, v=("x", get("x")), w=("y", UNIT)))

    def test_hold(self):
        for x in ROWS:
            self.one_step(hold(NIL, x), NIL)
        self.one_step(hold(SAME, "n"), SAME)

    def test_stuck_at_each_form(self):
        self.stuck(call(UNIT, UNIT))
        self.stuck(call(NIL, SAME))
        self.stuck(part(UNIT, "w"))
        self.stuck(part(box(v=UNIT), "w"))
        self.stuck(part(NIL, "nil"))
        self.stuck(part(SAME, "w"))
        self.stuck(split(NIL))
        self.stuck(split(NIL, cons=("x", UNIT)))
        self.stuck(split(UNIT, cons=("x", UNIT)))
        self.stuck(split(box(nil=UNIT), nil=("x", UNIT)))
        self.stuck(split(SAME, nil=("x", UNIT)))
        # Words that stand elsewhere in what is no pick.
        self.stuck(split(fn("nil", "a", get("nil")), nil=("x", UNIT)))
        self.stuck(part(pick("w", UNIT), "w"))
        self.stuck(part(fn("w", "a", get("w")), "w"))

    def test_stuck_behind_some_steps(self):
        maker = box(v=ONCE, w=call(hold(UNIT, "a"), hold(NIL, "a")))
        behind = box(v=UNIT, w=call(UNIT, NIL))
        self.runs(maker, 0, maker, 0, ("on",))
        self.runs(maker, 2, box(v=UNIT, w=call(UNIT, hold(NIL, "a"))), 2, ("on",))
        for n in (3, 4, 200):
            self.runs(maker, n, behind, 3, ("stuck", (1,)))

    def test_the_order(self):
        # Within ahead, in order: the first all of whose makers within it are values.
        maker = box(u=hold(hold(UNIT, "a"), "l"), v=call(hold(SAME, "f"), hold(NIL, "l")), w=hold(UNIT, "u"))
        known = [box(u=hold(UNIT, "l"), v=maker[1][1][1], w=maker[1][2][1]), box(u=UNIT, v=maker[1][1][1], w=maker[1][2][1]),
                 box(u=UNIT, v=call(SAME, hold(NIL, "l")), w=hold(UNIT, "u")),
                 box(u=UNIT, v=call(SAME, NIL), w=hold(UNIT, "u")), box(u=UNIT, v=NIL, w=hold(UNIT, "u")),
                 box(u=UNIT, v=NIL, w=UNIT)]
        for n, other in enumerate(known, 1):
            self.runs(maker, n, other, n, ("value",) if n == 6 else ("on",))
        self.runs(maker, 7, known[-1], 6, ("value",))

    def test_stuck_though_others_could_go_on(self):
        maker = box(v=part(UNIT, "w"), w=ONCE)
        self.runs(maker, 5, maker, 0, ("stuck", (0,)))
        maker = call(call(UNIT, UNIT), ONCE)
        self.runs(maker, 5, maker, 0, ("stuck", (0,)))
        maker = call(UNIT, ONCE)
        self.runs(maker, 5, call(UNIT, UNIT), 1, ("stuck", ()))

    def test_what_stands_in_an_fn_or_in_a_split_is_left_as_it_is(self):
        lazy = fn("x", "a", box(v=ONCE, w=part(UNIT, "w")))
        self.value(lazy)
        self.runs(box(v=lazy, w=ONCE), 9, box(v=lazy, w=UNIT), 1, ("value",))
        cases = {"no": ("x", part(UNIT, "w")), "yes": ("x", ONCE)}
        maker = split(hold(pick("yes", UNIT), "t"), **cases)
        self.runs(maker, 1, split(pick("yes", UNIT), **cases), 1, ("on",))
        self.runs(maker, 2, ONCE, 2, ("on",))
        self.runs(maker, 3, UNIT, 3, ("value",))

    def test_without_end(self):
        for n in (0, 1, 2, 199, 200, 250):
            self.runs(ROUND, n, ROUND, n, ("on",))
        maker = call(SAME, ROUND)
        self.runs(maker, 200, maker, 200, ("on",))

    def test_two_hundred_steps(self):
        # Calls of what calls twice, and so on.
        twice = fn("f", "w", fn("x", "a", call(get("f"), call(get("f"), get("x")))))
        maker = call(call(twice, call(twice, call(twice, call(twice, SAME)))), UNIT)
        self.assertTrue(is_maker(T, maker))
        found = run(maker, 200)
        self.assertEqual(found[0], UNIT)
        self.assertEqual(found[2], ("value",))
        self.assertGreater(found[1], 30)
        for n in range(0, found[1] + 3, 3):
            self.assertEqual(run(maker, n), plain_makers.run(maker, n))

    def test_handed_in_again(self):
        chance = random.Random(111)
        for turn in range(200):
            maker = some_maker(chance, [], 6, ROWS)
            n, m = chance.randrange(6), chance.randrange(6)
            if plain_makers.run(maker, n + m) not in (40, 400):
                behind, done, how = run(maker, n)
                again = run(behind, m)
                self.assertEqual((again[0], done + again[1], again[2]), run(maker, n + m))


def tree(boxes, gets):
    """So many boxes with so many gets of x in them."""
    maker = ("box", tuple(("b" + "abcdefg"[k], get("x")) for k in range(min(gets, 7))))
    gets -= min(gets, 7)
    for turn in range(boxes - 1):
        many = min(gets, 7)
        gets -= many
        maker = ("box", (("a", maker),) + tuple(("b" + "abcdefg"[k], get("x")) for k in range(many)))
    assert gets == 0
    return maker


def tall(many, inner):
    """So many picks round a maker."""
    for turn in range(many):
        inner = pick("w", inner)
    return inner


def wide(many):
    """A value of so many makers, few of them within one another."""
    maker = UNIT
    many -= 1
    while many:
        fewer = min(many, 7)
        many -= fewer
        maker = ("box", (("a", maker),) + tuple(("b" + "abcdefg"[k], UNIT) for k in range(fewer - 1)))
    return maker


class TooLarge(Checked):
    def test_four_hundred_makers(self):
        # 17 times 23, and the boxes round them.
        for boxes, whole in ((8, 399), (9, 400), (10, 401), (11, 402)):
            maker = call(fn("x", "a", tree(boxes, 17)), wide(23))
            self.assertTrue(is_maker(T, maker))
            behind = plain_makers.put_in(tree(boxes, 17), "x", wide(23))
            self.assertEqual(plain_makers.count(behind), whole)
            self.runs(maker, 0, maker, 0, ("on",))
            if whole <= 400:
                self.runs(maker, 1, behind, 1, ("value",))
                self.runs(maker, 200, behind, 1, ("value",))
            else:
                self.refused(maker, 1, 400)
                self.refused(maker, 200, 400)

    def test_what_stands_elsewhere_is_counted_too(self):
        # Within fns, and in what a split goes on by.
        for boxes, more in ((9, 0), (8, 1)):
            for outer in (lambda m: fn("y", "a", m), lambda m: split(UNIT, w=("y", m)), lambda m: hold(m, "a")):
                maker = call(fn("x", "a", outer(tree(boxes, 17))), wide(23))
                one_more = plain_makers.count(outer(UNIT)) - 1
                if 391 + boxes + one_more > 400:
                    self.refused(maker, 1, 400)
                else:
                    self.assertEqual(run(maker, 1)[1], 1)

    def test_forty_within_one_another(self):
        for last, whole in ((5, 39), (6, 40), (7, 41), (8, 42)):
            maker = call(fn("x", "a", tall(17, get("x"))), call(fn("x", "a", tall(16, get("x"))),
                         call(fn("x", "a", tall(last, get("x"))), UNIT)))
            self.assertTrue(is_maker(T, maker))
            behind = tall(17 + 16 + last, UNIT)
            self.assertEqual(plain_makers.depth(behind), whole)
            self.assertEqual(run(maker, 2)[1:], (2, ("on",)))
            if whole <= 40:
                self.runs(maker, 3, behind, 3, ("value",))
            else:
                self.refused(maker, 3, 40)
                self.refused(maker, 200, 40)

    def test_the_former_ahead(self):
        # Far too many makers, and too many within one another, behind one step.
        value = run(call(fn("x", "a", tall(17, get("x"))), tall(13, UNIT)), 1)[0]
        self.assertEqual(plain_makers.depth(value), 31)
        maker = call(fn("x", "a", tall(10, tree(3, 17))), value)
        self.refused(maker, 1, 400)
        maker = call(fn("x", "a", tall(10, tree(2, 1))), value)
        self.refused(maker, 1, 40)

    def test_growing_without_end(self):
        # Each round has one pick more about it.
        grows = fn("x", "w", pick("w", call(get("x"), get("x"))))
        self.refused(call(grows, grows), 200, 40)
        doubles = fn("x", "w", box(v=call(get("x"), get("x")), w=get("x")))
        self.refused(call(doubles, doubles), 200, 40)
        spreads = fn("x", "w", call(get("x"), box(v=get("x"), w=get("x"))))
        maker = call(fn("x", "w", call(get("x"), get("x"))), spreads)
        self.assertEqual(run(maker, 3), plain_makers.run(maker, 3))

    def test_doubled_again_and_again(self):
        double = fn("x", "a", box(v=get("x"), w=get("x")))
        maker = UNIT
        for turn in range(7):
            maker = call(double, maker)
        self.assertEqual(plain_makers.count(run(maker, 200)[0]), 255)
        self.assertEqual(run(maker, 200)[1:], (7, ("value",)))
        self.refused(call(double, maker), 200, 400)
        self.refused(call(double, call(double, maker)), 200, 400)
        self.assertEqual(run(call(double, maker), 7)[1:], (7, ("on",)))

    def test_told_ones_handed_in(self):
        """What goes beyond what a maker may be, as it is told."""
        double = fn("x", "a", box(v=get("x"), w=get("x")))
        maker = fn("z", "a", UNIT)
        for turn in range(6):
            maker = call(double, maker)
        behind, done, how = run(maker, 200)
        self.assertFalse(is_maker(T, behind))
        self.assertEqual(kind_of(T, behind)[0], "kind")
        self.assertEqual(run(part(behind, "v"), 1)[0], behind[1][0][1])
        self.assertEqual(maker_at(behind, (0, 1, 0)), behind[1][0][1][1][1][1][1][0][1])
        value = tall(39, UNIT)
        self.assertFalse(is_maker(T, value))
        self.assertEqual(kind_of(T, value)[0], "kind")
        self.assertEqual(thing_of(value), value)
        self.assertEqual(run(value, 5), (value, 0, ("value",)))
        self.assertEqual(run(hold(tall(38, UNIT), "a"), 5), (tall(38, UNIT), 1, ("value",)))


class ThingOf(unittest.TestCase):
    def test_values(self):
        for thing in (UNIT, NIL, box(v=UNIT, w=NIL), pick("w", box(v=UNIT)), cons(UNIT, cons(NIL, NIL)), tall(39, UNIT)):
            self.assertEqual(thing_of(thing), thing)
            self.assertTrue(is_thing(thing_of(thing)))

    def test_what_runs_come_to(self):
        maker = split(hold(cons(ONCE, NIL), "l"), cons=("x", part(get("x"), "head")), nil=("x", NIL))
        value, done, how = run(maker, 200)
        self.assertEqual((value, how), (UNIT, ("value",)))
        self.assertEqual(thing_of(value), UNIT)


class ByChance(Checked):
    def test_against_plain_words(self):
        chance = random.Random(112)
        seen = {}
        for turn in range(2500):
            maker = some_maker(chance, [], chance.randrange(2, 8), ROWS, 0.2)
            n = chance.choice([0, 1, 2, 3, 200])
            known = plain_makers.run(maker, n)
            if known in (40, 400):
                self.refused(maker, n, known)
                how = known
            else:
                self.runs(maker, n, *known)
                how = known[2][0]
            seen[how] = seen.get(how, 0) + 1
        self.assertGreater(min(seen[word] for word in ("value", "stuck", "on")), 200, seen)

    def test_a_maker_that_goes_well_never_sticks(self):
        chance = random.Random(113)
        seen = {"steps": 0, "narrower": 0, "things": 0}
        for turn in range(2500):
            maker = some_maker(chance, [], chance.randrange(3, 8), ROWS, 0.02)
            word, kind = kind_of(T, maker)
            if word == "kind" and self.goes_on_well(maker, kind, seen):
                value, done, how = run(maker, 200)
                self.assertEqual(how, ("value",))
                self.assertNotEqual(kind[0][1], ("none",))
                if is_thing(value):
                    self.assertTrue(is_of(kind, "ka", thing_of(value)))
                    self.assertTrue(is_of(kind_of(T, value)[1], "ka", thing_of(value)))
                    seen["things"] += 1
        self.assertGreater(min(seen.values()), 100, seen)

    def goes_on_well(self, maker, kind, seen):
        """Looks at each of up to thirty steps; tells whether it comes to a value so."""
        for turn in range(30):
            try:
                maker, done, how = run(maker, 1)
            except TooMany:
                return False
            self.assertNotEqual(how[0], "stuck")
            word, narrower = kind_of(T, maker)
            self.assertEqual(word, "kind")
            self.assertTrue(lies_within(narrower, "ka", kind, "ka"), maker)
            seen["steps"] += done
            seen["narrower"] += narrower != kind
            kind = narrower
            if how == ("value",):
                self.assertNotEqual(kind[0][1], ("none",))
                return True
        return False

    def test_one_whose_kind_is_nothing_never_comes_to_anything(self):
        chance = random.Random(114)
        seen = 0
        for turn in range(300):
            inner = some_maker(chance, ["x", "y"], 4, ROWS, 0.02)
            maker = call(fn("x", "n", call(fn("y", "a", inner), get("x"))), ROUND)
            word, kind = kind_of(T, maker)
            if word == "kind":
                self.assertEqual(run(maker, 200), (maker, 200, ("on",)))
                seen += 1
        self.assertGreater(seen, 50)
