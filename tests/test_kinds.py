"""What integers and tuples are here [A3], and how integers are written [A6]."""
import unittest

from tests.support import any_values
from whateverothers.kinds import integer_told, is_below, is_integer, is_tuple_of


class Kinds(unittest.TestCase):
    def test_integers(self):
        for value in any_values():
            self.assertIs(type(value) is int, is_integer(value))

    def test_integers_below(self):
        for value in any_values():
            self.assertIs(type(value) is int and value in (0, 1, 2), is_below(value, 5))

    def test_tuples_of_so_many(self):
        self.assertTrue(is_tuple_of((), 0) and is_tuple_of((0, 1), 2))
        self.assertFalse(is_tuple_of([0, 1], 2) or is_tuple_of("ab", 2) or is_tuple_of({0: 1}, 1))
        self.assertFalse(is_tuple_of((), 1) or is_tuple_of((0, 1), 1) or is_tuple_of(None, 0))


class Figures(unittest.TestCase):
    def test_integers_are_read(self):
        for value in (*range(1200), 999999999):
            self.assertEqual(value, integer_told(str(value)))

    def test_other_words_are_none(self):
        for word in ("", " ", "-", "-1", "+1", "00", "01", "007", "1 ", " 1", "1\n", "1.0", "1_0", "a", "0x1", "1e1",
                     "\u0663", "\u00b2", "\uff11", "1\u0663", "1000000000", "9" * 5000):
            self.assertIsNone(integer_told(word), word)


if __name__ == "__main__":
    unittest.main()
