import itertools
import random
import unittest

import plain
from coilkind.alike import are_alike, classes
from coilkind.least import least, name_of, put_together
from coilkind.roads import rows_met
from coilkind.tellings import is_telling
from samples import chain_to, doubled, names, ring, some_telling, told, with_one_changed

ALL = told("ka = all")
NONE = told("ka = none")
EIGHT = "abcdefgh"


class Names(unittest.TestCase):
    def test_the_first(self):
        letters = "abcdefghijklmnopqrstuvwxyz"
        self.assertEqual([name_of(k) for k in range(26)], ["k" + sign for sign in letters])

    def test_edges(self):
        for k, name in ((0, "ka"), (1, "kb"), (25, "kz"), (26, "kba"), (27, "kbb"), (51, "kbz"), (52, "kca"),
                        (675, "kzz"), (676, "kbaa"), (677, "kbab"), (701, "kbaz"), (702, "kbba"), (17575, "kzzz"),
                        (17576, "kbaaa"), (26 ** 7 - 1, "kzzzzzzz")):
            self.assertEqual(name_of(k), name)

    def test_in_their_order(self):
        letters = "abcdefghijklmnopqrstuvwxyz"
        known = list(letters) + ["".join(two) for two in itertools.product(letters[1:], letters)]
        known += ["b" + "".join(two) for two in itertools.product(letters, letters)]
        self.assertEqual([name_of(k) for k in range(len(known))], ["k" + signs for signs in known])


class Checked(unittest.TestCase):
    def look(self, T, x):
        """All that is told of a least telling, but that it is of fewest rows, which rows that are all unlike tell."""
        found = least(T, x)
        self.assertEqual([name for name, head in found], [name_of(k) for k in range(len(found))])
        self.assertNotIn("as", [head[0] for name, head in found])
        self.assertTrue(len(found) > 200 or is_telling(found))
        self.assertIsNone(plain.parting_by_pairs(T, x, found, "ka"))
        self.assertEqual([name for name, road in rows_met(found, "ka")], [name for name, head in found])
        self.assertEqual(len(classes(found)), len(found))
        self.assertEqual(least(found, "ka"), found)
        return found


class Least(Checked):
    def test_one_row(self):
        for head in (("all",), ("none",), ("box", ()), ("pick", ())):
            self.assertEqual(least((("x", head),), "x"), (("ka", head),))
        self.assertEqual(least(told("x = way x x"), "x"), told("ka = way ka ka"))

    def test_as_rows(self):
        T = told("s = t", "t = x", "x = way u y", "u = s", "y = z", "z = all")
        for x in ("s", "t", "x", "u"):
            self.assertEqual(self.look(T, x), told("ka = way ka kb", "kb = all"))
        for x in ("y", "z"):
            self.assertEqual(self.look(T, x), ALL)

    def test_rows_to_which_no_road_leads(self):
        T = told("far = box w x", "x = pick v y", "y = none", "other = way far x")
        self.assertEqual(self.look(T, "x"), told("ka = pick v kb", "kb = none"))
        self.assertEqual(self.look(T, "y"), NONE)
        self.assertEqual(self.look(T, "far"), told("ka = box w kb", "kb = pick v kc", "kc = none"))

    def test_alike_rows(self):
        T = told("x = box a y b z c w", "y = all", "z = all", "w = box a y b y c x")
        self.assertEqual(self.look(T, "x"), told("ka = box a kb b kb c ka", "kb = all"))
        self.assertEqual(self.look(T, "w"), told("ka = box a kb b kb c ka", "kb = all"))

    def test_the_first_row_is_the_kinds(self):
        T = told("y = all", "n = none", "x = way n y")
        self.assertEqual(self.look(T, "x"), told("ka = way kb kc", "kb = none", "kc = all"))
        self.assertEqual(self.look(T, "n"), NONE)

    def test_the_order_by_the_least_roads(self):
        T = told("e = none", "d = pick", "c = box", "b = way d e", "a = way b c", "x = box v a w e")
        self.assertEqual(self.look(T, "x"), told(
            "ka = box v kb w kc", "kb = way kd ke", "kc = none", "kd = way kf kc", "ke = box", "kf = pick"))
        # The order of the rows that are handed in changes nothing.
        for order in itertools.permutations(T):
            self.assertEqual(least(order, "x"), least(T, "x"))

    def test_rings_fold_up(self):
        for many in (1, 2, 5, 12, 60, 200):
            for x in names(many)[::17]:
                self.assertEqual(self.look(ring(many), x), told("ka = box w ka"))

    def test_a_ring_that_folds_up_in_part(self):
        T = tuple((name, ("pick" if k % 3 == 1 else "box", head[1])) for k, (name, head) in enumerate(ring(12)))
        self.assertEqual(self.look(T, "raa"), told("ka = box w kb", "kb = pick w kc", "kc = box w ka"))
        self.assertEqual(self.look(T, "rab"), told("ka = pick w kb", "kb = box w kc", "kc = box w ka"))

    def test_beyond_twenty_six_rows(self):
        found = self.look(chain_to(30, ("none",)), "raa")
        self.assertEqual([name for name, head in found], ["k" + chr(97 + k) for k in range(26)] +
                         ["kba", "kbb", "kbc", "kbd"])
        self.assertEqual(found[25:27], told("kz = box w kba", "kba = box w kbb"))
        self.assertEqual(found[-1], ("kbd", ("none",)))

    def test_names_of_the_telling_that_look_like_its_own(self):
        T = told("kb = box v ka w kc", "kc = none", "ka = all")
        self.assertEqual(self.look(T, "kb"), told("ka = box v kb w kc", "kb = all", "kc = none"))

    def test_by_chance(self):
        chance = random.Random(17)
        for turn in range(400):
            T = some_telling(chance, chance.randrange(1, 7), ["v", "w"])
            x = chance.choice(T)[0]
            found = self.look(T, x)
            self.assertLessEqual(len(found), len(plain.rows_met(T, x)))
            S = doubled(chance, T)
            for y in (x + "a", x + "s"):
                self.assertEqual(least(S, y), found)

    def test_equal_just_where_alike(self):
        chance = random.Random(18)
        seen = [0, 0]
        for turn in range(800):
            T = some_telling(chance, chance.randrange(1, 5), ["v", "w"])
            S = with_one_changed(chance, doubled(chance, T), ["v", "w"])
            x = chance.choice(T)[0]
            same = plain.parting_by_pairs(T, x, S, x + "a") is None
            self.assertEqual(least(T, x) == least(S, x + "a"), same)
            self.assertIs(are_alike(T, x, S, x + "a"), same)
            seen[same] += 1
        self.assertGreater(min(seen), 100)

    def test_fewest_rows(self):
        # No telling of fewer rows tells the kind, as all kinds of one row and of two are tried.
        chance = random.Random(19)
        words = ["w"]
        for turn in range(200):
            T = some_telling(chance, 3, words)
            found = least(T, T[0][0])
            for many in range(1, min(len(found), 3)):
                for heads in itertools.product(heads_over(names(many), words), repeat=many):
                    S = tuple(zip(names(many), heads))
                    self.assertIsNotNone(plain.parting_by_pairs(T, T[0][0], S, names(many)[0]))


def heads_over(called, words):
    heads = [("all",), ("none",), ("box", ()), ("pick", ())]
    heads += [("way", x, y) for x in called for y in called]
    return heads + [(sort, ((word, x),)) for sort in ("box", "pick") for word in words for x in called]


class PutTogether(Checked):
    def test_all_and_none(self):
        self.assertEqual(put_together("all", []), ALL)
        self.assertEqual(put_together("none", []), NONE)

    def test_no_words(self):
        self.assertEqual(put_together("box", []), told("ka = box"))
        self.assertEqual(put_together("pick", []), told("ka = pick"))

    def test_way(self):
        self.assertEqual(put_together("way", [ALL, NONE]), told("ka = way kb kc", "kb = all", "kc = none"))
        self.assertEqual(put_together("way", [NONE, ALL]), told("ka = way kb kc", "kb = none", "kc = all"))
        self.assertEqual(put_together("way", [ALL, told("x = y", "y = all")]), told("ka = way kb kb", "kb = all"))

    def test_up_to_eight_words(self):
        for sort in ("box", "pick"):
            for many in range(1, 9):
                kinds = [(word, chain_to(k + 1, ("all",))) for k, word in enumerate(EIGHT[:many])]
                found = put_together(sort, kinds)
                self.assertEqual(len(found), many + 1)
                self.assertEqual(found[0][1][0], sort)
                self.assertEqual([word for word, x in found[0][1][1]], list(EIGHT[:many]))
                for (word, x), (other, kind) in zip(found[0][1][1], kinds):
                    self.assertTrue(are_alike(found, x, kind, kind[0][0]))
                self.assertEqual(self.look(found, "ka"), found)

    def test_the_first_row_of_each_is_its_kind(self):
        T = told("s = y", "x = all", "y = none")
        S = told("x = all", "s = y", "y = none")
        self.assertEqual(put_together("box", [("v", T), ("w", S)]), told("ka = box v kb w kc", "kb = none", "kc = all"))

    def test_rows_called_alike_stay_apart(self):
        T = told("x = way y y", "y = all")
        S = told("x = way y y", "y = none")
        self.assertEqual(put_together("way", [T, S]), told(
            "ka = way kb kc", "kb = way kd kd", "kc = way ke ke", "kd = all", "ke = none"))

    def test_kinds_alike_to_one_another(self):
        for sort in ("box", "pick"):
            kinds = [(word, ring(k + 1)) for k, word in enumerate(EIGHT)]
            whole = f"ka = {sort} " + " ".join(f"{word} kb" for word in EIGHT)
            self.assertEqual(put_together(sort, kinds), told(whole, "kb = box w kb"))
        self.assertEqual(put_together("way", [ring(2), ring(3)]), told("ka = way kb kb", "kb = box w kb"))

    def test_kinds_alike_to_the_whole(self):
        self.assertEqual(put_together("box", [("w", ring(7))]), told("ka = box w ka"))
        self.assertEqual(put_together("way", [told("x = way y y", "y = way x x")] * 2), told("ka = way ka ka"))
        T = told("x = pick v y w z", "z = pick v y w x", "y = all")
        self.assertEqual(put_together("pick", [("v", ALL), ("w", T)]), told("ka = pick v kb w ka", "kb = all"))
        self.assertEqual(put_together("pick", [("v", NONE), ("w", T)]), told(
            "ka = pick v kb w kc", "kb = none", "kc = pick v kd w kc", "kd = all"))

    def test_kinds_within_the_whole(self):
        # What the second kind names is alike to the first, deep in it.
        self.assertEqual(put_together("way", [told("x = box w x"), told("x = way y x", "y = box w z", "z = box w y")]),
                         told("ka = way kb ka", "kb = box w kb"))

    def test_by_chance(self):
        chance = random.Random(20)
        for turn in range(200):
            sort = chance.choice(["way", "box", "pick"])
            kinds = [some_telling(chance, chance.randrange(1, 5), ["v", "w"]) for k in range(2)]
            # The same by hand: the rows of both under other names, and the head's row ahead of them.
            rows = [(x + letter, with_letter(head, letter)) for T, letter in zip(kinds, "ab") for x, head in T]
            first, second = kinds[0][0][0] + "a", kinds[1][0][0] + "b"
            head = ("way", first, second) if sort == "way" else (sort, (("v", first), ("w", second)))
            whole = (("x", head),) + tuple(rows)
            found = put_together(sort, kinds if sort == "way" else list(zip("vw", kinds)))
            self.assertEqual(found, self.look(whole, "x"))

    def test_nothing_is_changed(self):
        kinds = [("v", ring(3)), ("w", NONE)]
        before = list(kinds)
        put_together("box", kinds)
        self.assertEqual(kinds, before)
        two = [ALL, NONE]
        put_together("way", two)
        self.assertEqual(two, [ALL, NONE])


def with_letter(head, letter):
    """A head with a letter behind each name of a row."""
    if head[0] in ("box", "pick"):
        return head[0], tuple((word, x + letter) for word, x in head[1])
    return (head[0],) + tuple(x + letter for x in head[1:])
