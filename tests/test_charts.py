"""Charts [A4], [A5] and the conventions [A3]."""
import itertools
import unittest

from tests.plain import BARE, FULL, LINE, STAR, WHEEL, error_of_chart, is_near
from tests.support import any_values, call_alike, exchanged, is_plain, returns
from whateverothers.charts import chart_error, near


def told(case, expected, value):
    returns(case, expected, chart_error, value=value)


class ChartErrors(unittest.TestCase):
    def test_charts_have_none(self):
        every = tuple(itertools.combinations(range(24), 2))
        for chart in ((1, (), ()), (1, (), (0,)), (24, (), ()), BARE, FULL, WHEEL, LINE, STAR, (24, every, ()),
                      (24, ((0, 23),), (0, 23)), (24, (), tuple(range(24))), (2, ((0, 1),), (0, 1))):
            told(self, None, chart)

    def test_form_of_what_is_no_triple(self):
        for value in ((), (5,), (5, ()), (5, (), (), ()), [5, (), ()], "5:;", 5, None, True, {}, {0: 5, 1: (), 2: ()}):
            told(self, "form", value)

    def test_form_of_what_has_no_tuples(self):
        for wrong in ([], [(0, 1)], None, 0, True, "", "01", {}, {(0, 1): 0}):
            told(self, "form", (5, wrong, ()))
            told(self, "form", (5, (), wrong))
            told(self, "form", (5, wrong, wrong))

    def test_many(self):
        for wrong in (0, 25, -1, -5, 10 ** 399, True, False, None, "5", "", (), (5,), [], [5], {}):
            told(self, "many", (wrong, (), ()))

    def test_road(self):
        wrongs = ((1, 0), (1, 1), (0, 3), (3, 4), (-1, 0), (0, 1, 2), (0,), (), [0, 1], (0, True), (False, 1),
                  (True, 2), (0, "1"), ("0", 1), (0, None), "01", None, 1, True, {0: 1}, ((0, 1),), (0, 10 ** 399))
        for wrong in wrongs:
            told(self, ("road", 0), (3, (wrong,), ()))
            told(self, ("road", 0), (3, (wrong, (0, 1)), ()))
            told(self, ("road", 2), (3, ((0, 1), (0, 2), wrong), ()))

    def test_road_not_greater_than_the_one_ahead(self):
        told(self, ("road", 1), (3, ((0, 1), (0, 1)), ()))
        told(self, ("road", 1), (3, ((0, 2), (0, 1)), ()))
        told(self, ("road", 2), (3, ((0, 1), (1, 2), (0, 2)), ()))
        told(self, ("road", 1), (3, ((1, 2), (0, 1), (0, 2)), ()))

    def test_centre(self):
        for wrong in (3, -1, 24, True, False, None, "0", (), (0,), [0], {}, 10 ** 399):
            told(self, ("centre", 0), (3, (), (wrong,)))
            told(self, ("centre", 1), (3, (), (2, wrong)))

    def test_centre_not_greater_than_the_one_ahead(self):
        told(self, ("centre", 1), (3, (), (1, 1)))
        told(self, ("centre", 1), (3, (), (1, 0)))
        told(self, ("centre", 2), (3, (), (0, 2, 1)))

    def test_the_first_that_applies_is_told(self):
        told(self, "form", (0, [], (9,)))
        told(self, "form", (True, ((1, 0),), [9]))
        told(self, "many", (25, ((1, 0),), (99,)))
        told(self, ("road", 1), (3, ((0, 1), (2, 1), (1, 0)), (9,)))
        told(self, ("road", 0), (3, ((0, 3), (0, 3)), (3,)))
        told(self, ("centre", 0), (3, ((0, 1),), (3, 3)))

    def test_values_of_all_kinds(self):
        for value in any_values():
            told(self, error_of_chart(value), value)

    def test_charts_with_any_part_exchanged(self):
        others = [value for value in any_values() if len(repr(value)) < 500]
        for chart in ((3, ((0, 1), (0, 2), (1, 2)), (0, 2)), LINE, (1, (), ())):
            for value in exchanged(chart, others):
                self.assertEqual(repr(error_of_chart(value)), repr(chart_error(value)), value)

    def test_all_small_charts_and_what_is_like_them(self):
        pairs = list(itertools.product(range(-1, 3), repeat=2))
        for many, first, second in itertools.product(range(4), pairs, pairs):
            value = (many, (first, second), (first[0], second[1]))
            self.assertEqual(error_of_chart(value), chart_error(value), value)


class Near(unittest.TestCase):
    def test_no_road(self):
        returns(self, (), near, chart=(1, (), ()), field=0)
        for field in range(24):
            self.assertEqual((), near(BARE, field))

    def test_one_road(self):
        chart = (4, ((1, 3),), ())
        self.assertEqual([(), (3,), (), (1,)], [near(chart, field) for field in range(4)])

    def test_all_roads(self):
        for field in range(24):
            others = tuple(other for other in range(24) if other != field)
            returns(self, others, near, chart=FULL, field=field)

    def test_lesser_and_greater_ones_ascend(self):
        returns(self, (0, 1, 3, 4), near, chart=(5, ((0, 2), (1, 2), (2, 3), (2, 4)), ()), field=2)
        returns(self, (0, 2), near, chart=(5, ((0, 1), (0, 3), (1, 2), (2, 3)), (1,)), field=1)

    def test_each_road_goes_both_ways(self):
        for chart in (WHEEL, LINE, STAR, FULL, BARE):
            fields = range(chart[0])
            for one in fields:
                self.assertEqual(tuple(other for other in fields if is_near(chart, one, other)), near(chart, one))
                for other in fields:
                    self.assertEqual(one in near(chart, other), other in near(chart, one))
                self.assertNotIn(one, near(chart, one))

    def test_centres_are_of_no_account(self):
        for field in range(5):
            self.assertEqual(near(WHEEL[:2] + ((),), field), near(WHEEL, field))


class Returned(unittest.TestCase):
    def test_nothing_returned_can_change(self):
        self.assertTrue(is_plain(near(WHEEL, 0)))
        self.assertTrue(is_plain(chart_error((3, ((1, 0),), ()))))

    def test_wrong_values_are_left_as_they_were(self):
        value = (3, ([0, 1], {0: [1]}), ([],))
        call_alike(self, chart_error, value=value)
        self.assertEqual((3, ([0, 1], {0: [1]}), ([],)), value)


if __name__ == "__main__":
    unittest.main()
