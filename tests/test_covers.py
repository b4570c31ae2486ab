"""Least covers [H2]."""
import itertools
import unittest

from tests.plainsure import drawn_pairs, is_cover_of, most_pairs
from tests.support import call_alike, is_plain, returns, subsets
from whateverothers.covers import least_cover
from whateverothers.matching import matched


def size(cover):
    return len(cover[0]) + len(cover[1])


class Told(unittest.TestCase):
    def right(self, many, cutters, backs, pairs):
        """The cover is right and has so many items."""
        call_alike(self, least_cover, cutters=cutters, backs=backs, pairs=pairs)
        told = least_cover(cutters, backs, pairs)
        self.assertTrue(is_plain(told))
        self.assertTrue(is_cover_of(cutters, backs, pairs, told), (pairs, told))
        self.assertEqual(many, size(told), (pairs, told))


class OneByOne(Told):
    def test_nothing_to_cover(self):
        for cutters, backs in (((), ()), ((), (2, 3)), ((4, 5), ()), ((4, 5), (2, 3))):
            returns(self, ((), ()), least_cover, cutters=cutters, backs=backs, pairs=())

    def test_what_can_be_covered_in_one_way(self):
        returns(self, ((4,), ()), least_cover, cutters=(4,), backs=(2, 3), pairs=((4, 2), (4, 3)))
        returns(self, ((), (2,)), least_cover, cutters=(4, 5), backs=(2,), pairs=((4, 2), (5, 2)))
        returns(self, ((1,), (9,)), least_cover, cutters=(0, 1, 2), backs=(8, 9, 10),
                pairs=((0, 9), (1, 8), (1, 9), (1, 10), (2, 9)))

    def test_one_pair(self):
        self.right(1, (4,), (2,), ((4, 2),))
        self.right(1, (4, 5, 6), (2, 3), ((5, 3),))

    def test_along_chains(self):
        for many in range(1, 8):
            pairs = sorted([(at, 8 + at) for at in range(many)] + [(at, 9 + at) for at in range(many)])
            self.right(many, tuple(range(many)), tuple(range(8, 9 + many)), tuple(pairs))
            pairs = sorted([(at, 8 + at) for at in range(many)] + [(at + 1, 8 + at) for at in range(many)])
            self.right(many, tuple(range(many + 1)), tuple(range(8, 8 + many)), tuple(pairs))

    def test_all_pairs(self):
        for many, more in ((10, 6), (9, 7), (7, 9), (8, 8), (15, 1), (1, 15)):
            cutters, backs = tuple(range(many)), tuple(range(many, many + more))
            self.right(min(many, more), cutters, backs, tuple(itertools.product(cutters, backs)))


class AgainstAll(Told):
    def test_small_ones_against_all_covers(self):
        for cutters, backs in (((0, 2), (1, 3)), ((1, 2, 5), (0, 4)), ((7, 8), (3, 9, 15)), ((0, 1, 2), (3, 4, 5))):
            for pairs in subsets(itertools.product(cutters, backs)):
                tried = itertools.product(subsets(cutters), subsets(backs))
                fewest = min(size(cover) for cover in tried if is_cover_of(cutters, backs, pairs, cover))
                told = least_cover(cutters, backs, pairs)
                self.assertTrue(is_cover_of(cutters, backs, pairs, told), (pairs, told))
                self.assertEqual(fewest, size(told), (pairs, told))

    def test_as_many_as_a_greatest_matching_has(self):
        for seed, most_cutters, most_backs in ((1, 5, 5), (2, 9, 7), (3, 10, 6), (4, 6, 10)):
            for cutters, backs, pairs in drawn_pairs(seed, 60, most_cutters, most_backs):
                many = len(matched(cutters, backs, pairs))
                self.assertEqual(most_pairs(backs, pairs), many)
                self.right(many, cutters, backs, pairs)


if __name__ == "__main__":
    unittest.main()
