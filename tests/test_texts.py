import copy
import itertools
import re
import unittest

from coilkind.errors import NoTelling, NoText
from coilkind.tellings import is_telling
from coilkind.texts import read_telling, show_telling
from samples import EACH_HEAD, EACH_TEXT, names, other_signs

ALL = ("all",)
NAME = "(?!(?:all|none|way|box|pick)(?: |$))[a-z]{1,8}"
LINE = re.compile(f"{NAME} = (?:all|none|way {NAME} {NAME}|(?:box|pick)((?: {NAME} {NAME})*)|{NAME})")


def tells_a_row(line):
    """The form of a line, told once more in another way than the program's."""
    found = LINE.fullmatch(line)
    if found is None:
        return False
    words = (found.group(1) or "").split()[::2]
    return words == sorted(set(words))


class Checked(unittest.TestCase):
    def no_text(self, text, number):
        with self.assertRaises(NoText, msg=text) as caught:
            read_telling(text)
        self.assertEqual(caught.exception.number, number, text)

    def no_telling(self, text):
        with self.assertRaises(NoTelling, msg=text):
            read_telling(text)


class Shown(unittest.TestCase):
    def test_each_sort_of_line(self):
        self.assertEqual(show_telling(EACH_HEAD), EACH_TEXT)
        lines = EACH_TEXT.split("\n")
        for row, line in zip(EACH_HEAD, lines):
            self.assertEqual(show_telling((row,)), line)

    def test_the_order_of_rows(self):
        self.assertEqual(show_telling(EACH_HEAD[::-1]), "\n".join(EACH_TEXT.split("\n")[::-1]))

    def test_no_line_feed_at_the_end(self):
        self.assertEqual(show_telling((("a", ALL),)), "a = all")
        self.assertEqual(show_telling((("a", ALL), ("b", ("none",)))), "a = all\nb = none")

    def test_more_than_two_hundred_rows(self):
        for many in (201, 500):
            T = tuple((name, ("way", name, "raa")) for name in names(many))
            lines = show_telling(T).split("\n")
            self.assertEqual(lines, [f"{name} = way {name} raa" for name in names(many)])

    def test_nothing_is_changed(self):
        before = copy.deepcopy(EACH_HEAD)
        self.assertEqual(show_telling(EACH_HEAD), show_telling(EACH_HEAD))
        self.assertEqual(EACH_HEAD, before)


class ReadBack(unittest.TestCase):
    def test_each_sort_of_line(self):
        self.assertEqual(read_telling(EACH_TEXT), EACH_HEAD)
        self.assertIs(is_telling(read_telling(EACH_TEXT)), True)

    def test_the_very_telling_in_any_order(self):
        for order in itertools.permutations(EACH_HEAD[:5]):
            T = order + EACH_HEAD[5:]
            self.assertEqual(read_telling(show_telling(T)), T)

    def test_single_lines(self):
        for line, head in (("a = all", ALL), ("a = none", ("none",)), ("a = way a a", ("way", "a", "a")),
                           ("a = box", ("box", ())), ("a = pick", ("pick", ())),
                           ("a = box a a", ("box", (("a", "a"),))),
                           ("a = pick as a hole a", ("pick", (("as", "a"), ("hole", "a"))))):
            self.assertEqual(read_telling(line), (("a", head),))
            self.assertEqual(show_telling((("a", head),)), line)

    def test_rows_called_as(self):
        self.assertEqual(read_telling("a = as\nas = all"), (("a", ("as", "as")), ("as", ALL)))
        self.assertEqual(read_telling("as = a\na = box as as"), (("as", ("as", "a")), ("a", ("box", (("as", "as"),)))))

    def test_two_hundred_rows(self):
        T = tuple((name, ("box", (("w", "raa"),))) for name in names(200))
        self.assertEqual(read_telling(show_telling(T)), T)

    def test_what_is_made_of_all_pairs_of_heads(self):
        heads = [ALL, ("none",), ("way", "a", "b"), ("box", ()), ("box", (("v", "b"), ("w", "a"))),
                 ("pick", ()), ("pick", (("w", "b"),)), ("as", "a"), ("as", "b")]
        for one, other in itertools.product(heads, repeat=2):
            T = (("a", one), ("b", other))
            if is_telling(T):
                self.assertEqual(read_telling(show_telling(T)), T)


class NoTexts(Checked):
    def test_the_text_without_signs(self):
        self.no_text("", 0)

    def test_line_feeds(self):
        self.no_text("a = all\n", 1)
        self.no_text("a = all\nb = all\n", 2)
        self.no_text("\na = all", 0)
        self.no_text("a = all\n\nb = all", 1)
        self.no_text("\n", 0)

    def test_blanks(self):
        for line in ("a  = all", "a =  all", " a = all", "a = all ", "a = ", "a =", "a", "a ", "=", " ", "a= all",
                     "a =all", "a=all", "= all", " = all", "a = way  x y", "a = way x  y", "a = way x y ",
                     "a = box ", "a = box  ", "a = pick ", "a = box  w x", "a = box w  x", "a = box w x ",
                     "a = x ", "a =  x", "a all", "a == all", "a : all", "a = = all"):
            self.no_text(line, 0)
            self.no_text("x = all\n" + line, 1)

    def test_words_that_fall_or_stand_twice(self):
        for sort in ("box", "pick"):
            for words in ("w x v x", "w x w x", "w x w y", "u x w x v x", "ab x a x", "b x ab x", "u x v x u x"):
                self.no_text(f"x = {sort} {words}", 0)

    def test_a_part_without_a_name(self):
        for sort in ("box", "pick"):
            for words in ("w", "v x w", "u x v x w"):
                self.no_text(f"x = {sort} {words}", 0)

    def test_words_too_many_or_too_few(self):
        for line in ("x = all x", "x = none x", "x = all all", "x = all none", "x = way", "x = way x",
                     "x = way x x x", "x = x x", "x = as x", "x = x all", "x x = all", "x = y = all"):
            self.no_text(line, 0)

    def test_words_that_are_no_names(self):
        wrong = ["all", "none", "way", "box", "pick", "abcdefghi", "A", "a1", "=", "x="]
        wrong += ["a" + sign for sign in other_signs() if sign not in " \n"]
        for word in wrong:
            for line in (f"{word} = all", f"x = way {word} x", f"x = way x {word}", f"x = box {word} x",
                         f"x = pick {word} x", f"x = box w {word}", f"x = pick v x w {word}"):
                self.no_text(line, 0)
            if word not in ("all", "none", "box", "pick"):
                self.no_text(f"x = {word}", 0)

    def test_the_first_such_line(self):
        self.no_text("a = all\nb = al l\nc =\nd", 1)
        self.no_text("A = all\nb = all\nc =", 0)
        rows = [f"{name} = all" for name in names(300)]
        for number in (0, 1, 199, 200, 299):
            self.no_text("\n".join(rows[:number] + ["a = box w"] + rows[number + 1:]), number)

    def test_all_lines_of_some_words(self):
        pool = ["", "x", "y", "all", "way", "box", "="]
        for many in range(1, 6):
            for words in itertools.product(pool, repeat=many):
                self.one_line("x = " + " ".join(words))
                if many < 5:
                    self.one_line(" ".join(words))

    def one_line(self, line):
        try:
            self.assertEqual(show_telling(read_telling(line)), line)
            row = True
        except NoTelling:
            row = True
        except NoText as error:
            self.assertEqual(error.number, 0)
            row = False
        self.assertIs(row, tells_a_row(line), line)


class NoTellings(Checked):
    def test_a_name_at_two_lines(self):
        self.no_telling("a = all\na = all")
        self.no_telling("a = all\nb = none\na = b")

    def test_a_name_that_has_no_row(self):
        for line in ("a = b", "a = way a b", "a = way b a", "a = box w b", "a = pick v a w b", "a = as"):
            self.no_telling(line)

    def test_rings_of_as_rows(self):
        self.no_telling("a = a")
        self.no_telling("a = b\nb = a")
        self.no_telling("x = all\na = b\nb = c\nc = b")

    def test_too_many_rows(self):
        for many in (201, 300):
            self.no_telling("\n".join([f"{name} = all" for name in names(many)]))

    def test_no_text_goes_first(self):
        self.no_text("a = all\na = all\nb", 2)
        self.no_text("a = b\nb = a\nc = ", 2)
        self.no_text("a = z\nb = box w", 1)
        self.no_text("a = a\n", 1)
        rows = [f"{name} = all" for name in names(250)]
        self.no_text("\n".join(rows + [""]), 250)
