"""The texts of charts [A6], [A7]."""
import itertools
import random
import unittest

from tests.plain import BARE, FULL, LINE, STAR, WHEEL, is_chart_text
from tests.support import any_values, is_plain, raises, returns, spoiled, subsets
from whateverothers.charttexts import chart_text, read_chart
from whateverothers.errors import BadText

SIGNS = tuple(" 0123456789:;-,+_.ax\n\t\r") + ("\u0663", "\u00b2", "\uff11", "\u00a0", "\u2212", "\x00")


def drawn_charts():
    draw = random.Random(6)
    for many in range(1, 25):
        pairs = list(itertools.combinations(range(many), 2))
        for _ in range(12):
            roads = tuple(sorted(draw.sample(pairs, draw.randint(0, len(pairs)))))
            yield (many, roads, tuple(sorted(draw.sample(range(many), draw.randint(0, many)))))


def small_charts():
    for many in (1, 2, 3):
        for roads in subsets(itertools.combinations(range(many), 2)):
            for centres in subsets(range(many)):
                yield (many, roads, centres)


class Writing(unittest.TestCase):
    def test_texts(self):
        for chart, text in (((1, (), ()), "1:;"), ((24, (), ()), "24:;"), ((1, (), (0,)), "1:; 0"),
                            ((12, ((0, 10), (10, 11)), (9, 10)), "12: 0-10 10-11; 9 10"),
                            ((2, ((0, 1),), ()), "2: 0-1;"), ((3, (), (0, 1, 2)), "3:; 0 1 2")):
            returns(self, text, chart_text, chart=chart)
            returns(self, chart, read_chart, value=text)

    def test_unlike_charts_have_unlike_texts(self):
        charts = set(small_charts()) | set(drawn_charts())
        self.assertEqual(len(charts), len({chart_text(chart) for chart in charts}))


class Reading(unittest.TestCase):
    def test_there_and_back(self):
        for chart in (*small_charts(), *drawn_charts(), WHEEL, LINE, STAR, FULL, BARE):
            self.assertEqual(repr(chart), repr(read_chart(chart_text(chart))))
        returns(self, WHEEL, read_chart, value=chart_text(WHEEL))
        returns(self, FULL, read_chart, value=chart_text(FULL))
        self.assertTrue(is_plain(read_chart(chart_text(FULL))))

    def test_texts_of_none(self):
        wrongs = ("", " ", ":", ";", ":;", "1", "1:", "1;", "0:;", "25:;", "240:;", "-1:;", "+1:;", "01:;", "1.0:;",
                  "1_0:;", " 1:;", "1 :;", "1: ;", "1:; ", "1:;;", "1::;", "1;:", "1:;0", "1:; 0 ", "1:;  0", "1:; 00",
                  "1:;\n", "\n1:;", "1:\n;", "1:;\r\n", "2:0-1;", "2:  0-1;", "2: 0-1 ;", "2: 0 -1;", "2: 0- 1;",
                  "2: 00-1;", "2: 0-01;", "2: 0--1;", "2: 0-1-1;", "2: 0-;", "2: -1;", "2: 0;", "2: -;", "2: 0:1;",
                  "2: 1-0;", "2: 0-0;", "2: 0-2;", "2: 0-1 0-1;", "3: 0-2 0-1;", "3: 1-2 0-1;", "2:; 1 0", "2:; 0 0",
                  "2:; 2", "2:; -1", "2:; 0-1", "2:; 0;", "2:; 0: 1", "a:;", "2: a-b;", "2:; a", "2: 0-1, 0-1;",
                  "\u0661:;", "\u00b2:;", "\uff12:;", "2: 0-\u0661;", "2: 0\u22121;", "2:\u00a00-1;", "2:; \u0660",
                  "form", "None", "(1, (), ())")
        for value in wrongs:
            self.assertFalse(is_chart_text(value), value)
            raises(self, "BadText", read_chart, value=value)

    def test_very_long_figures(self):
        for long in ("1" * 400, "9" * 4301, "9" * 19000, "0" * 5000 + "1", "1" + "0" * 10000):
            for value in (long, long + ":;", f"2: 0-{long};", f"2: {long}-1;", f"2:; {long}"):
                raises(self, "BadText", read_chart, value=value)

    def test_very_long_texts(self):
        for value in (" " * 20000, "1:;" + " " * 19000, "2:" + " 0-1" * 4900 + ";", "-" * 20000, ":;" * 10000):
            raises(self, "BadText", read_chart, value=value)

    def test_what_is_no_string(self):
        for value in [value for value in any_values() if not isinstance(value, str)]:
            raises(self, "BadText", read_chart, value=value)
        raises(self, "BadText", read_chart, value=WHEEL)
        raises(self, "BadText", read_chart, value=["1:;"])

    def test_strings_of_all_kinds(self):
        for value in [value for value in any_values() if isinstance(value, str) and value != "1:;"]:
            raises(self, "BadText", read_chart, value=value)

    def test_spoiled_texts(self):
        for chart in (WHEEL, (1, (), ()), (12, ((0, 10), (10, 11)), (9, 10)), (3, ((0, 2),), (1,))):
            for value in spoiled(chart_text(chart), SIGNS):
                self.compare(value)

    def compare(self, value):
        """A spoiled text may be the text of another chart; it is read exactly if it is."""
        if is_chart_text(value):
            self.assertEqual(value, chart_text(read_chart(value)))
        else:
            with self.assertRaises(BadText, msg=value):
                read_chart(value)

    def test_all_short_texts(self):
        for many in range(6):
            for signs in itertools.product("012-:; ", repeat=many):
                self.compare("".join(signs))


if __name__ == "__main__":
    unittest.main()
