import copy
import itertools
import unittest

from coilkind.tellings import head_of, is_telling, row_of
from samples import EACH_HEAD, names, nested, no_texts, other_signs

ALL = ("all",)


def with_head(head):
    """A telling, but for that head, with the rows x and y beside it."""
    return (("r", head), ("x", ALL), ("y", ("none",)))


def chain(many):
    """As rows, each naming the next one, and at their end a row that is none."""
    called = names(many)
    rows = [(ahead, ("as", behind)) for ahead, behind in zip(called, called[1:])]
    return tuple(rows + [(called[-1], ALL)])


def ring(called):
    """As rows that come round."""
    return tuple((ahead, ("as", behind)) for ahead, behind in zip(called, called[1:] + called[:1]))


def small_as_tellings():
    """All ways to give four rows heads ("all",) and ("as", x)."""
    called = "abcd"
    heads = [ALL] + [("as", x) for x in called]
    for chosen in itertools.product(heads, repeat=4):
        yield tuple(zip(called, chosen))


def comes_round(T):
    """Whether a row comes round to itself by as rows: pairs of rows are put together until none is new."""
    leads = {(name, head[1]) for name, head in T if head[0] == "as"}
    while True:
        more = leads | {(a, d) for a, b in leads for c, d in leads if b == c}
        if more == leads:
            return any(a == b for a, b in leads)
        leads = more


class Checked(unittest.TestCase):
    def yes(self, thing):
        self.assertIs(is_telling(thing), True, repr(thing)[:200])

    def no(self, thing):
        self.assertIs(is_telling(thing), False, repr(thing)[:200])


class GoodTellings(Checked):
    def test_each_head(self):
        self.yes(EACH_HEAD)
        for order in itertools.permutations(EACH_HEAD[:5]):
            self.yes(order + EACH_HEAD[5:])

    def test_heads_by_themselves(self):
        for head in (ALL, ("none",), ("box", ()), ("pick", ())):
            self.yes((("a", head),))

    def test_heads_with_names(self):
        for head in (("way", "x", "y"), ("way", "x", "x"), ("way", "r", "r"), ("as", "x"), ("as", "y")):
            self.yes(with_head(head))

    def test_parts_and_cases(self):
        for sort in ("box", "pick"):
            for pairs in ((), (("w", "x"),), (("v", "y"), ("w", "y")), (("a", "r"), ("ab", "x"), ("b", "y")),
                          (("x", "y"), ("y", "x")), (("as", "x"), ("hole", "x")), (("abcdefgh", "r"),)):
                self.yes(with_head((sort, pairs)))

    def test_rows_may_be_called_like_other_words(self):
        self.yes((("as", ("as", "hole")), ("hole", ALL), ("from", ("way", "as", "hole"))))

    def test_rings_through_other_heads(self):
        self.yes((("a", ("way", "a", "a")),))
        self.yes((("a", ("box", (("w", "a"),))),))
        self.yes((("a", ("pick", (("w", "b"),))), ("b", ("as", "a"))))
        self.yes((("a", ("as", "b")), ("b", ("as", "c")), ("c", ("way", "a", "b"))))

    def test_up_to_two_hundred_rows(self):
        for many in (1, 2, 40, 199, 200):
            self.yes(tuple((name, ALL) for name in names(many)))
            self.yes(chain(many))
            self.yes(chain(many)[::-1])


class BadTellings(Checked):
    def test_no_rows_and_too_many(self):
        self.no(())
        for many in (201, 202, 400):
            self.no(tuple((name, ALL) for name in names(many)))
            self.no(chain(many))

    def test_a_name_at_two_rows(self):
        self.no((("a", ALL), ("a", ALL)))
        self.no((("a", ALL), ("a", ("none",))))
        self.no((("a", ALL), ("b", ALL), ("c", ALL), ("a", ("as", "b"))))
        self.no(tuple((name, ALL) for name in names(199)) + (("raa", ALL),))

    def test_rows_that_are_no_names(self):
        for name in ("", "all", "none", "way", "box", "pick", "A", "a b", "abcdefghi", "a\n", "a1"):
            self.no(((name, ALL),))
            self.no((("a", ALL), (name, ALL)))
        for thing in no_texts():
            self.no(((thing, ALL),))

    def test_names_that_have_no_row(self):
        for head in (("way", "z", "x"), ("way", "x", "z"), ("as", "z"),
                     ("box", (("w", "z"),)), ("box", (("v", "x"), ("z", "z"))), ("pick", (("w", "z"),)),
                     ("pick", (("u", "x"), ("v", "z"), ("w", "y")))):
            self.no(with_head(head))
            self.yes(with_head(head) + (("z", ALL),))

    def test_a_word_is_no_row(self):
        self.no((("a", ("box", (("b", "b"),))),))
        self.yes((("a", ("box", (("b", "a"),))),))

    def test_words_that_fall_or_stand_twice(self):
        for sort in ("box", "pick"):
            for pairs in ((("w", "x"), ("v", "x")), (("w", "x"), ("w", "x")), (("w", "x"), ("w", "y")),
                          (("u", "x"), ("w", "x"), ("v", "x")), (("u", "x"), ("v", "x"), ("v", "x")),
                          (("b", "x"), ("ab", "x")), (("ab", "x"), ("a", "x")),
                          (("u", "x"), ("v", "x"), ("u", "x"))):
                self.no(with_head((sort, pairs)))

    def test_words_that_are_no_names(self):
        wrong = ["", "all", "none", "way", "box", "pick", "abcdefghi"] + [sign + "a" for sign in other_signs()]
        for sort in ("box", "pick"):
            for word in wrong + no_texts():
                self.no(with_head((sort, ((word, "x"),))))
                self.no(with_head((sort, (("w", word),))))

    def test_heads_too_short_or_too_long(self):
        for head in ((), ("way",), ("way", "x"), ("way", "x", "y", "x"), ("as",), ("as", "x", "y"),
                     ("all", "x"), ("none", "x"), ("all", ()), ("none", ()), ("all", "all"),
                     ("box",), ("pick",), ("box", (), ()), ("pick", (), ()), ("box", (("w", "x"),), "x"),
                     ("box", "w", "x"), ("pick", "w", "x"), ("box", ("w", "x"))):
            self.no(with_head(head))

    def test_pairs_too_short_or_too_long(self):
        for sort in ("box", "pick"):
            for pair in ((), ("w",), ("w", "x", "y"), ("w", "x", "x", "x")):
                self.no(with_head((sort, (pair,))))
                self.no(with_head((sort, (("v", "x"), pair))))

    def test_rows_too_short_or_too_long(self):
        for row in ((), ("a",), ("a", ALL, ALL), ("a", "all"), (ALL, "a"), ("a", ALL, None)):
            self.no((row,))
            self.no((("b", ALL), row))

    def test_unknown_first_words(self):
        for sort in ("hole", "bag", "x", "All", "", "al", "alls", "all ", "as ", "\n"):
            for rest in ((), ("x",), ("x", "y"), ((),)):
                self.no(with_head((sort,) + rest))

    def test_a_list_or_a_text_in_a_tuples_place(self):
        self.no([("a", ALL)])
        self.no((["a", ALL],))
        self.no((("a", ["all"]),))
        self.no((("a", "all"),))
        self.no(("aa",))
        self.no("a")
        for sort in ("box", "pick"):
            for pairs in ([], "", {}, None, "wx", [("w", "x")], (["w", "x"],), ("wx",), ({"w": "x"},), {"w": "x"}):
                self.no(with_head((sort, pairs)))
        self.no(with_head(("way", ["x"], "y")))
        self.no(with_head(("way", "x", ("y",))))
        self.no(with_head(("as", ("x",))))


class AsRings(Checked):
    def test_of_one_row(self):
        self.no((("a", ("as", "a")),))
        self.no((("b", ALL), ("a", ("as", "a"))))

    def test_of_all_rows(self):
        for many in (2, 3, 40, 199, 200):
            self.no(ring(names(many)))
            self.no(ring(names(many))[::-1])

    def test_of_some_rows(self):
        for many in (1, 2, 3, 50):
            self.no((("x", ALL), ("y", ("way", "x", "raa"))) + ring(names(many)) + (("z", ("none",)),))

    def test_behind_a_chain(self):
        for many in (1, 2, 3, 50):
            behind = (("x", ("as", "y")), ("y", ("as", "z")), ("z", ("as", "raa")))
            self.no(behind + ring(names(many)))
            self.no(ring(names(many)) + behind)

    def test_all_small_ones(self):
        for T in small_as_tellings():
            self.assertIs(is_telling(T), not comes_round(T), T)


class OfAnything(Checked):
    def test_things_by_themselves(self):
        for thing in no_texts() + ["", "a", "all", "a = all", EACH_HEAD[0], ALL]:
            self.no(thing)

    def test_things_in_every_place(self):
        for thing in no_texts() + [[], {}, ([],), ({},), ([[]], {})]:
            self.no((thing,))
            self.no((("a", ALL), thing))
            self.no((("a", thing),))
            self.no((("a", (thing,)),))
            self.no((("a", (thing, "a")),))
            self.no((("a", (thing, "a", "a")),))
            self.no((("a", (thing, ())),))
            self.no((("a", ("as", thing)),))
            self.no((("a", ("way", thing, "a")),))
            self.no((("a", ("way", "a", thing)),))
            self.no((("a", ("all", thing)),))
            self.no((("a", ("box", (thing,))),))
            self.no((("a", ("pick", (("w", thing),))),))
            if thing != ():
                self.no((("a", ("box", thing)),))

    def test_deep_things(self):
        for kind in ("tuple", "list", "dict"):
            for depth in (1, 2, 3, 98, 99, 100):
                self.no(nested(kind, depth))
                self.no(((("a", ALL)), nested(kind, depth)))

    def test_nothing_is_changed_or_kept(self):
        things = no_texts() + [[("a", ALL)], (["a", ALL],), (("a", ("box", [("w", "a")])),), (("a", ["all"]),)]
        before = copy.deepcopy(things)
        for thing in things:
            self.no(thing)
        self.assertEqual(things, before)
        row = ["a", ALL]
        self.no((row,))
        row.append(ALL)
        self.no((row,))
        self.yes((tuple(row[:2]),))


class Rows(unittest.TestCase):
    def both(self, T, x, name):
        """Asked twice, as nothing is kept."""
        before = copy.deepcopy(T)
        for turn in range(2):
            self.assertEqual(row_of(T, x), name)
            self.assertEqual(head_of(T, x), dict(T)[name])
        self.assertEqual(T, before)

    def test_rows_that_are_no_as_rows(self):
        for name, head in EACH_HEAD:
            if head[0] != "as":
                self.both(EACH_HEAD, name, name)

    def test_one_as_row(self):
        self.both(EACH_HEAD, "as", "go")
        self.both((("a", ("as", "b")), ("b", ("box", (("w", "a"),)))), "a", "b")
        self.both((("b", ("box", (("w", "a"),))), ("a", ("as", "b"))), "a", "b")

    def test_chains_ahead_and_behind(self):
        for many in (2, 3, 39, 40):
            called = names(many)
            for x in called:
                self.both(chain(many), x, called[-1])
                self.both(chain(many)[::-1], x, called[-1])

    def test_a_chain_to_and_fro(self):
        T = (("a", ("as", "d")), ("b", ("way", "a", "c")), ("c", ("as", "b")), ("d", ("as", "c")), ("e", ALL))
        for x in "abcd":
            self.both(T, x, "b")
        self.both(T, "e", "e")

    def test_the_head_is_told_as_it_stands(self):
        T = (("a", ("as", "b")), ("b", ("pick", (("v", "a"), ("w", "b")))))
        self.assertEqual(head_of(T, "a"), ("pick", (("v", "a"), ("w", "b"))))

    def test_all_small_ones(self):
        for T in small_as_tellings():
            if not comes_round(T):
                heads = dict(T)
                for x in heads:
                    name = x
                    while heads[name] != ALL:
                        name = heads[name][1]
                    self.both(T, x, name)

    def test_rows_beyond_two_hundred(self):
        self.both(chain(300), "raa", names(300)[-1])
