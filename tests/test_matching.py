"""Greatest matchings [G4]."""
import itertools
import unittest

from tests.plainsure import drawn_pairs, most_pairs
from tests.support import call_alike, is_plain, returns, subsets
from whateverothers.matching import matched


def is_matching(pairs, value):
    """Whether value is an ascending tuple of some of pairs, no two of them with one cutter or one back."""
    return (type(value) is tuple and list(value) == sorted(set(value)) and set(value) <= set(pairs)
            and len({cutter for cutter, _ in value}) == len({back for _, back in value}) == len(value))


class Told(unittest.TestCase):
    def right(self, many, cutters, backs, pairs):
        """The matching is right and has so many pairs."""
        call_alike(self, matched, cutters=cutters, backs=backs, pairs=pairs)
        told = matched(cutters, backs, pairs)
        self.assertTrue(is_plain(told))
        self.assertTrue(is_matching(pairs, told), (pairs, told))
        self.assertEqual(many, len(told), (pairs, told))

    def all_pairs(self, cutters, backs):
        return tuple(itertools.product(cutters, backs))


class OneByOne(Told):
    def test_nothing_to_match(self):
        for cutters, backs in (((), ()), ((), (2, 3)), ((4, 5), ()), ((4, 5), (2, 3)), ((0,), (15,))):
            returns(self, (), matched, cutters=cutters, backs=backs, pairs=())

    def test_what_can_be_matched_in_one_way(self):
        returns(self, ((4, 2),), matched, cutters=(4,), backs=(2,), pairs=((4, 2),))
        returns(self, ((4, 3), (5, 2)), matched, cutters=(4, 5), backs=(2, 3), pairs=((4, 2), (4, 3), (5, 2)))
        returns(self, ((0, 15), (1, 14)), matched, cutters=(0, 1), backs=(14, 15), pairs=((0, 15), (1, 14)))

    def test_one_cutter_and_one_back_with_many(self):
        self.right(1, (4,), (2, 3, 9), ((4, 2), (4, 3), (4, 9)))
        self.right(1, (1, 4, 11), (3,), ((1, 3), (4, 3), (11, 3)))

    def test_chains_that_have_to_be_changed_along(self):
        for many in range(1, 9):
            # Each cutter but the last reaches its own back and the next one's; the last reaches the first back alone.
            pairs = [(at, 8 + at) for at in range(many - 1)] + [(at, 9 + at) for at in range(many - 1)]
            pairs.append((many - 1, 8))
            self.right(many, tuple(range(many)), tuple(range(8, 8 + many)), tuple(sorted(pairs)))
            # The other way about: the first one reaches the last back alone.
            pairs = [(at, 8 + at) for at in range(1, many)] + [(at, 7 + at) for at in range(1, many)] + [(0, 7 + many)]
            self.right(many, tuple(range(many)), tuple(range(8, 8 + many)), tuple(sorted(pairs)))

    def test_more_want_one_back_than_can_have_it(self):
        self.right(2, (0, 1, 2), (5, 6, 7), ((0, 5), (1, 5), (2, 5), (2, 6), (2, 7)))
        self.right(3, (0, 1, 2, 3), (5, 6, 7), tuple(sorted([*self.all_pairs((0, 1, 2), (5, 6)), (3, 5), (3, 7)])))

    def test_all_pairs(self):
        for many, more in ((1, 1), (10, 6), (6, 10), (9, 7), (7, 9), (8, 8), (15, 1), (1, 15), (5, 3)):
            low, high = tuple(range(many)), tuple(range(many, many + more))
            self.right(min(many, more), low, high, self.all_pairs(low, high))
            low, high = tuple(range(more)), tuple(range(more, many + more))
            self.right(min(many, more), high, low, self.all_pairs(high, low))

    def test_integers_in_any_order_of_size(self):
        even, odd = tuple(range(0, 16, 2)), tuple(range(1, 16, 2))
        for cutters, backs in ((even, odd), (odd, even)):
            self.right(8, cutters, backs, self.all_pairs(cutters, backs))
            beside = tuple(pair for pair in self.all_pairs(cutters, backs) if abs(pair[0] - pair[1]) == 1)
            self.right(8, cutters, backs, beside)


class AgainstAll(Told):
    def test_small_ones_against_all_tuples_of_pairs(self):
        for cutters, backs in (((0, 2), (1, 3)), ((1, 2, 5), (0, 4)), ((7, 8), (3, 9, 15)), ((0, 1, 2), (3, 4, 5))):
            for pairs in subsets(self.all_pairs(cutters, backs)):
                most = max(len(some) for some in subsets(pairs) if is_matching(pairs, some))
                self.assertEqual(most, most_pairs(backs, pairs))
                told = matched(cutters, backs, pairs)
                self.assertTrue(is_matching(pairs, told), (pairs, told))
                self.assertEqual(most, len(told), (pairs, told))

    def test_drawn_ones(self):
        for seed, most_cutters, most_backs in ((1, 5, 5), (2, 9, 7), (3, 10, 6), (4, 6, 10)):
            for cutters, backs, pairs in drawn_pairs(seed, 60, most_cutters, most_backs):
                self.right(most_pairs(backs, pairs), cutters, backs, pairs)


if __name__ == "__main__":
    unittest.main()
