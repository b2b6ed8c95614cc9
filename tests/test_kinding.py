import random
import unittest

import plain_makers
from coilkind.bounds import joined
from coilkind.kinding import kind_of
from coilkind.least import least, put_together
from coilkind.makers import is_maker, maker_at
from coilkind.texts import show_telling
from coilkind.within import lies_within
from samples import doubled, names, ring, some_telling, told
from some_makers import NIL, ROUND, T, UNIT, box, call, cons, fn, get, hold, part, pick, some_maker, split

NONE = told("ka = none")
# Something of any row of T: an fn that is handed it.
ROWS = [name for name, head in T]
# A maker whose kind is none: it does on and on the same.
NOTHING = ROUND
# What is no way, no box and no pick, and goes well.
HELD = hold(UNIT, "a")


class Checked(unittest.TestCase):
    def kind(self, maker, telling, S=T):
        self.assertTrue(is_maker(S, maker), maker)
        found = kind_of(S, maker)
        self.assertEqual(found, ("kind", telling), maker)
        self.assertEqual(least(telling, "ka"), telling)
        self.assertEqual(plain_makers.kind_of(S, maker), found)

    def kind_told(self, maker, *lines, S=T):
        self.kind(maker, told(*lines), S)

    def as_row(self, maker, x, S=T):
        self.kind(maker, least(S, x), S)

    def ill(self, maker, place, S=T):
        self.assertTrue(is_maker(S, maker), maker)
        self.assertEqual(kind_of(S, maker), ("ill", place), maker)
        self.assertEqual(plain_makers.kind_of(S, maker), ("ill", place))
        maker_at(maker, place)

    def with_kind(self, x, inner, *lines):
        """Of an fn with x of that kind, the second kind is that of lines."""
        found = kind_of(T, fn("x", x, inner))
        self.assertEqual(found[0], "kind", inner)
        self.assertEqual(found[1], put_together("way", [least(T, x), told(*lines)]))

    def ill_with(self, x, inner, place):
        """Of an fn with x of that kind, at fault is what stands at a place in it."""
        self.ill(fn("x", x, inner), (0,) + place)


class Forms(Checked):
    def test_get(self):
        self.ill(get("x"), ())
        for x in ROWS:
            self.kind(fn("x", x, get("x")), put_together("way", [least(T, x), least(T, x)]))
        self.ill(fn("x", "a", get("y")), (0,))

    def test_names_bound_twice(self):
        self.kind(fn("x", "a", fn("x", "u", get("x"))),
                  put_together("way", [least(T, "a"), put_together("way", [least(T, "u"), least(T, "u")])]))
        self.kind(fn("x", "u", box(v=call(fn("x", "t", get("x")), pick("no", UNIT)), w=get("x"))),
                  put_together("way", [least(T, "u"), put_together("box", [("v", least(T, "t")), ("w", least(T, "u"))])]))
        self.with_kind("l", split(get("x"), cons=("x", get("x")), nil=("y", get("y"))), "ka = box")
        self.with_kind("t", split(get("x"), no=("x", get("x")), yes=("y", get("x"))), "ka = all")

    def test_names_bound_elsewhere(self):
        self.ill(call(fn("x", "a", get("x")), get("x")), (1,))
        self.ill(box(v=fn("x", "a", get("x")), w=get("x")), (1,))
        self.ill(split(pick("yes", UNIT), no=("x", UNIT), yes=("y", get("x"))), (2,))
        self.ill(split(get("y"), no=("y", UNIT)), (0,))

    def test_fn(self):
        self.kind_told(fn("x", "u", UNIT), "ka = way kb kb", "kb = box")
        self.kind_told(fn("x", "a", UNIT), "ka = way kb kc", "kb = all", "kc = box")
        self.kind_told(fn("x", "n", NIL), "ka = way kb kc", "kb = none", "kc = pick nil kd", "kd = box")
        self.ill(fn("x", "a", part(UNIT, "w")), (0,))
        self.ill(fn("x", "a", fn("y", "a", call(UNIT, get("z")))), (0, 0, 1))

    def test_call(self):
        self.kind_told(call(fn("x", "u", NIL), UNIT), "ka = pick nil kb", "kb = box")
        self.kind_told(call(fn("x", "u", get("x")), box(v=NIL)), "ka = box")
        self.as_row(call(fn("x", "a", get("x")), UNIT), "a")
        self.ill(call(fn("x", "u", get("x")), NIL), ())
        self.ill(call(fn("x", "n", get("x")), UNIT), ())
        self.as_row(call(fn("x", "n", UNIT), NOTHING), "u")
        self.ill(call(fn("x", "l", get("x")), pick("yes", UNIT)), ())
        self.as_row(call(fn("x", "l", get("x")), NIL), "l")

    def test_call_of_none_and_of_all(self):
        self.kind(call(NOTHING, UNIT), NONE)
        self.kind(call(NOTHING, HELD), NONE)
        self.ill(call(NOTHING, get("x")), (1,))
        self.ill(call(NOTHING, part(UNIT, "v")), (1,))
        self.ill(call(HELD, UNIT), ())
        self.ill(call(UNIT, UNIT), ())
        self.ill(call(NIL, UNIT), ())
        self.with_kind("n", call(get("x"), UNIT), "ka = none")
        self.ill_with("a", call(get("x"), UNIT), ())

    def test_call_of_ways(self):
        self.with_kind("g", call(get("x"), UNIT), "ka = pick no kb yes kb", "kb = box")
        self.with_kind("g", call(get("x"), get("x")), "ka = pick no kb yes kb", "kb = box")
        self.with_kind("d", call(get("x"), get("x")), "ka = none")
        self.ill_with("d", call(get("x"), UNIT), ())
        self.with_kind("w", call(call(get("x"), get("x")), get("x")), "ka = way ka ka")
        self.with_kind("z", call(get("x"), NOTHING), "ka = all")
        self.ill_with("z", call(get("x"), UNIT), ())
        # What is handed in may lie deep within.
        self.with_kind("f", call(get("x"), cons(UNIT, cons(NIL, NIL))), *lines_of("l"))
        self.ill_with("f", call(get("x"), cons(UNIT, UNIT)), ())

    def test_box(self):
        self.kind_told(UNIT, "ka = box")
        self.kind_told(box(v=UNIT, w=NIL), "ka = box v kb w kc", "kb = box", "kc = pick nil kb")
        self.ill(box(u=UNIT, v=get("x"), w=get("y")), (1,))
        self.ill(box(u=UNIT, v=UNIT, w=get("y")), (2,))

    def test_eight_words(self):
        maker = ("box", tuple((word, UNIT) for word in "abcdefgh"))
        self.kind_told(maker, "ka = box " + " ".join(word + " kb" for word in "abcdefgh"), "kb = box")
        self.kind_told(part(maker, "h"), "ka = box")

    def test_part(self):
        self.kind_told(part(box(v=UNIT, w=NIL), "w"), "ka = pick nil kb", "kb = box")
        self.with_kind("q", part(get("x"), "v"), "ka = pick no kb yes kb", "kb = box")
        self.with_kind("n", part(get("x"), "v"), "ka = none")
        self.kind(part(NOTHING, "w"), NONE)
        self.ill(part(UNIT, "w"), ())
        self.ill(part(box(v=UNIT), "w"), ())
        self.ill(part(NIL, "nil"), ())
        self.ill(part(HELD, "w"), ())
        self.ill(part(fn("x", "a", UNIT), "w"), ())
        self.ill(part(get("x"), "w"), (0,))

    def test_pick(self):
        self.kind_told(pick("w", UNIT), "ka = pick w kb", "kb = box")
        self.kind_told(pick("w", NOTHING), "ka = pick w kb", "kb = none")
        self.ill(pick("w", get("x")), (0,))

    def test_hold(self):
        self.as_row(hold(UNIT, "u"), "u")
        self.as_row(hold(UNIT, "a"), "a")
        self.as_row(hold(NIL, "l"), "l")
        self.as_row(hold(NIL, "s"), "l")
        self.as_row(hold(cons(UNIT, cons(NIL, NIL)), "l"), "l")
        self.as_row(hold(NOTHING, "n"), "n")
        self.as_row(hold(fn("x", "a", NOTHING), "f"), "f")
        self.ill(hold(UNIT, "n"), ())
        self.ill(hold(HELD, "u"), ())
        self.ill(hold(UNIT, "t"), ())
        self.ill(hold(get("x"), "n"), (0,))
        self.as_row(hold(pick("no", UNIT), "t"), "t")
        self.as_row(part(hold(box(v=pick("no", UNIT), w=fn("x", "a", pick("yes", UNIT))), "q"), "v"), "t")
        self.ill(hold(pick("yes", HELD), "t"), ())


def lines_of(x):
    """The lines of the least telling of a row of T."""
    return show_telling(least(T, x)).split("\n")


class Splits(Checked):
    def test_of_none(self):
        self.kind(split(NOTHING), NONE)
        # What stands there isn't looked at.
        self.kind(split(NOTHING, no=("x", get("y"))), NONE)
        self.with_kind("n", split(get("x"), no=("y", part(UNIT, "w"))), "ka = none")

    def test_of_no_words(self):
        self.with_kind("e", split(get("x")), "ka = none")
        self.with_kind("e", split(get("x"), no=("y", get("z"))), "ka = none")
        self.ill(split(UNIT), ())
        self.ill(split(HELD), ())
        self.ill(split(fn("x", "a", get("x"))), ())
        self.ill(split(NIL), ())

    def test_words_that_it_has_and_has_not(self):
        no = pick("no", NIL)
        self.kind_told(split(no, no=("x", get("x"))), "ka = pick nil kb", "kb = box")
        self.kind_told(split(no, no=("x", get("x")), yes=("x", get("x"))), "ka = pick nil kb", "kb = box")
        self.ill(split(no, yes=("x", get("x"))), ())
        self.ill(split(no), ())
        self.ill_with("t", split(get("x"), no=("y", UNIT)), ())
        self.with_kind("t", split(get("x"), no=("y", UNIT), yes=("y", UNIT)), "ka = box")
        self.with_kind("t", split(get("x"), maybe=("y", get("q")), no=("y", UNIT), yes=("y", UNIT)), "ka = box")

    def test_other_words_are_not_looked_at(self):
        self.as_row(split(pick("no", UNIT), no=("x", get("x")), yes=("x", get("y"))), "u")
        self.as_row(split(pick("no", UNIT), aa=("x", call(UNIT, UNIT)), no=("x", get("x"))), "u")
        self.ill(split(pick("no", UNIT), no=("x", get("y")), yes=("x", get("x"))), (1,))
        self.ill(split(pick("no", UNIT), aa=("x", get("y")), no=("x", get("y"))), (2,))

    def test_not_looked_at_where_it_is_no_such_pick(self):
        self.ill(split(pick("no", UNIT), yes=("x", get("y"))), ())
        self.ill(split(UNIT, yes=("x", get("y"))), ())
        self.ill_with("t", split(get("x"), no=("x", get("y"))), ())

    def test_the_first_at_fault(self):
        self.ill(split(get("x"), no=("x", get("y"))), (0,))
        self.ill_with("t", split(get("x"), no=("y", get("z")), yes=("y", get("z"))), (1,))
        self.ill_with("t", split(get("x"), no=("y", get("y")), yes=("y", get("z"))), (2,))
        self.ill_with("t", split(get("x"), no=("y", get("y")), yes=("y", box(v=get("y"), w=part(get("y"), "w")))), (2, 1))

    def test_what_they_are_joined(self):
        self.with_kind("t", split(get("x"), no=("y", NIL), yes=("y", pick("cons", UNIT))),
                       "ka = pick cons kb nil kb", "kb = box")
        self.with_kind("t", split(get("x"), no=("y", UNIT), yes=("y", NIL)), "ka = all")
        self.with_kind("t", split(get("x"), no=("y", NOTHING), yes=("y", NIL)), "ka = pick nil kb", "kb = box")
        self.with_kind("t", split(get("x"), no=("y", box(u=UNIT, v=UNIT)), yes=("y", box(v=NIL, w=UNIT))),
                       "ka = box v kb", "kb = all")
        self.with_kind("t", split(get("x"), no=("y", fn("y", "u", UNIT)), yes=("y", fn("y", "t", NIL))),
                       "ka = way kb kc", "kb = none", "kc = all")

    def test_each_case_has_its_kind(self):
        self.with_kind("l", split(get("x"), cons=("y", part(get("y"), "tail")), nil=("y", hold(pick("nil", get("y")), "l"))),
                       *lines_of("l"))
        self.ill_with("l", split(get("x"), cons=("y", get("y")), nil=("y", part(get("y"), "tail"))), (2,))

    def test_eight_words(self):
        S = told("x = pick " + " ".join(word + " u" for word in "abcdefgh"), "u = box")
        cases = tuple((word, "y", pick(word, get("y"))) for word in "abcdefgh")
        found = kind_of(S, fn("x", "x", ("split", get("x"), cases)))
        self.assertEqual(found, ("kind", put_together("way", [least(S, "x"), least(S, "x")])))


class Order(Checked):
    def test_within_ahead(self):
        self.ill(call(get("x"), get("y")), (0,))
        self.ill(call(UNIT, get("y")), (1,))
        self.ill(call(part(get("x"), "w"), get("y")), (0, 0))
        self.ill(hold(part(UNIT, "w"), "n"), (0,))
        self.ill(part(box(v=UNIT, w=call(UNIT, hold(UNIT, "n"))), "u"), (0, 1, 1))
        self.ill(fn("x", "a", box(v=get("x"), w=split(pick("no", get("x")), no=("y", box(w=get("z")))))), (0, 1, 1, 0))

    def test_a_split_ahead_of_what_it_goes_on_by(self):
        self.ill(box(v=split(pick("no", UNIT), yes=("x", get("y"))), w=get("y")), (0,))
        self.ill(box(v=split(pick("no", UNIT), no=("x", UNIT)), w=get("y")), (1,))

    def test_what_is_not_looked_at(self):
        # A call of none has a kind, whatever it is handed, if only that has one.
        self.kind(call(NOTHING, call(fn("x", "a", get("x")), UNIT)), NONE)
        self.ill(call(NOTHING, call(fn("x", "n", get("x")), UNIT)), (1,))


class Rings(Checked):
    def test_lists(self):
        swap = fn("x", "l", split(get("x"), cons=("y", cons(part(get("y"), "head"), part(get("y"), "tail"))),
                                  nil=("y", pick("nil", get("y")))))
        self.kind(swap, put_together("way", [least(T, "l"), least(T, "l")]))
        self.kind(call(swap, NIL), least(T, "l"))

    def test_kinds_that_go_round(self):
        self.kind(fn("x", "w", get("x")), told("ka = way ka ka"))
        self.kind(fn("x", "w", fn("y", "w", call(get("x"), get("y")))), told("ka = way ka ka"))
        self.kind(fn("x", "l", cons(get("x"), get("x"))), put_together("way", [least(T, "l"), put_together(
            "pick", [("cons", put_together("box", [("head", least(T, "l")), ("tail", least(T, "l"))]))])]))

    def test_round_without_end(self):
        self.kind(ROUND, NONE)
        self.kind(fn("x", "d", call(get("x"), get("x"))), put_together("way", [least(T, "d"), NONE]))
        self.assertEqual(put_together("way", [least(T, "d"), NONE]), least(T, "d"))

    def test_joined_rings(self):
        # Rings of seven and eleven rows, the first row of each unlike the others.
        def beating(many, letter):
            called = [name + letter for name in names(many)]
            return tuple((name, ("pick", (("w", called[(k + 1) % many]), ("x", "u" if k else "n"))))
                         for k, name in enumerate(called))

        S = told("t = pick no u yes u", "u = box", "n = none") + beating(7, "a") + beating(11, "b")
        maker = fn("x", "t", fn("y", "raaa", fn("z", "raab", split(get("x"), no=("x", get("y")), yes=("x", get("z"))))))
        whole = joined(S, "raaa", S, "raab")
        self.assertEqual(len(whole), 77 + 2)
        found = kind_of(S, maker)
        self.assertEqual(found, ("kind", put_together("way", [least(S, "t"), put_together(
            "way", [least(S, "raaa"), put_together("way", [least(S, "raab"), whole])])])))

    def test_two_hundred_rows(self):
        S = ring(199, lambda name: ("way", name, name))[:-1] + ((names(199)[-1], ("way", "end", names(199)[0])),
                                                               ("end", ("all",)))
        maker = fn("x", "raa", get("x"))
        self.assertEqual(kind_of(S, maker), ("kind", put_together("way", [least(S, "raa")] * 2)))
        maker = get("x")
        for turn in range(15):
            maker = call(fn("x", "raa", box(v=get("x"), w=get("x"))) if turn % 2 else fn("x", "end", get("x")), maker)
        self.assertEqual(kind_of(S, fn("x", "raa", maker)), plain_makers.kind_of(S, fn("x", "raa", maker)))

    def test_sixty_makers_over_two_hundred_rows(self):
        chance = random.Random(101)
        S = some_telling(chance, 200, ["v", "w"], ("box", "pick", "way"), as_rows=False)
        maker = get("x")
        for turn in range(14):
            maker = box(v=maker, w=fn("y", S[turn][0], get("x")))
        maker = fn("x", S[0][0], maker)
        self.assertTrue(is_maker(S, maker))
        found = kind_of(S, maker)
        self.assertEqual(found[0], "kind")
        self.assertEqual(least(found[1], "ka"), found[1])


class ByChance(Checked):
    def test_against_plain_words(self):
        chance = random.Random(102)
        seen = {}
        for turn in range(3000):
            maker = some_maker(chance, [], chance.randrange(2, 7), ROWS)
            if is_maker(T, maker):
                found = kind_of(T, maker)
                self.assertEqual(found, plain_makers.kind_of(T, maker), maker)
                seen[found[0]] = seen.get(found[0], 0) + 1
                if found[0] == "ill":
                    form = maker_at(maker, found[1])[0]
                    seen[form] = seen.get(form, 0) + 1
                else:
                    self.assertEqual(least(found[1], "ka"), found[1])
        self.assertGreater(min(seen[word] for word in ("kind", "ill", "call", "hold", "part", "split")), 20, seen)
        self.assertGreater(seen["kind"], 500)

    def test_free_names(self):
        chance = random.Random(103)
        for turn in range(300):
            maker = some_maker(chance, ["x", "y"], 4, ROWS)
            self.assertEqual(kind_of(T, maker), plain_makers.kind_of(T, maker))

    def test_by_other_tellings_of_the_same_kinds(self):
        chance = random.Random(104)
        S = tuple((chr(97 + k) * 3, head) for k, (name, head) in enumerate(T))
        called = {name: other for (name, head), (other, same) in zip(T, S)}
        S = tuple((name, renamed_head(head, called)) for name, head in S)
        R = doubled(chance, S)
        for turn in range(300):
            maker = some_maker(chance, [], 5, ROWS)
            other = renamed_maker(maker, {name: called[name] + chance.choice("abs") for name in called})
            self.assertEqual(kind_of(T, maker), kind_of(R, other))

    def test_nearer_kinds_make_nearer_kinds(self):
        # An fn handed less comes to less.
        chance = random.Random(105)
        seen = 0
        for turn in range(2000):
            inner = some_maker(chance, ["x"], 4, ROWS)
            x, y = chance.choice(ROWS), chance.choice(ROWS)
            if lies_within(T, x, T, y):
                low, high = kind_of(T, fn("x", x, inner)), kind_of(T, fn("x", y, inner))
                if high[0] == "kind":
                    self.assertEqual(low[0], "kind", inner)
                    ends = [(S, S[0][1][2]) for word, S in (low, high)]
                    self.assertTrue(lies_within(*ends[0], *ends[1]))
                    seen += low != high
        self.assertGreater(seen, 30)


def renamed_head(head, called):
    if head[0] in ("box", "pick"):
        return head[0], tuple((word, called[x]) for word, x in head[1])
    return (head[0],) + tuple(called[x] for x in head[1:])


def renamed_maker(maker, called):
    """A maker with other names of rows."""
    made = maker
    for k, one in enumerate(plain_makers.inner(maker)):
        made = plain_makers.at(made, (k,), renamed_maker(one, called))
    if made[0] == "fn":
        return made[:2] + (called[made[2]],) + made[3:]
    return made[:2] + (called[made[2]],) if made[0] == "hold" else made
