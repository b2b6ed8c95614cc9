import unittest

from coilkind.errors import CoilError, NoTelling, NoText, TooMany


class Errors(unittest.TestCase):
    def test_where_they_stand(self):
        self.assertEqual(CoilError.__bases__, (ValueError,))
        for error in (NoText, TooMany, NoTelling):
            self.assertEqual(error.__bases__, (CoilError,))
            self.assertTrue(issubclass(error, ValueError))

    def test_none_under_another(self):
        errors = (NoText, TooMany, NoTelling)
        for one in errors:
            for other in errors:
                self.assertEqual(issubclass(one, other), one is other)

    def test_fields(self):
        for number in (0, 1, 200):
            self.assertEqual(NoText(number).number, number)
            self.assertEqual(TooMany(number).many, number)

    def test_numbers_of_many_digits(self):
        self.assertEqual(TooMany(10 ** 9000).many, 10 ** 9000)

    def test_no_telling_is_made_of_a_text(self):
        with self.assertRaises(NoTelling) as caught:
            raise NoTelling("why not")
        self.assertIn("why not", str(caught.exception))

    def test_fields_when_raised(self):
        with self.assertRaises(CoilError) as caught:
            raise NoText(7)
        self.assertEqual(caught.exception.number, 7)
        with self.assertRaises(CoilError) as caught:
            raise TooMany(1000)
        self.assertEqual(caught.exception.many, 1000)
