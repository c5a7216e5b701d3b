import unittest

from tests.samples import (
    CENTS, EDGE_SYSTEMS, NO_SUMS, NO_SYSTEMS, NO_WAYS, PENCE, RefusalCase,
    all_ways, best_of, greatest_one_by_one, small_systems,
)
from tillcoins.errors import BadSum, BadSystem, BadWay
from tillcoins.paying import by_fewest, by_greatest, count_ways, excess, fewest, sum_of

OF_A_SUM = (fewest, by_greatest, by_fewest, count_ways, excess)


class AgainstTryingTest(unittest.TestCase):
    """All small systems and sums, beside the answers that trying every way gives."""

    def test_small_systems(self):
        for system in small_systems(9):
            for number in range(26):
                self.compare(system, number)

    def test_five_coins(self):
        for system in [(1, 2, 3, 4, 5), (1, 4, 5, 6, 7), (1, 3, 4, 9, 10), (1, 5, 6, 8, 11)]:
            for number in range(45):
                self.compare(system, number)

    def compare(self, system, number):
        ways = all_ways(system, number)
        best = best_of(ways)
        greatest_first = greatest_one_by_one(system, number)
        told = [function(system, number) for function in OF_A_SUM]
        asked = [sum(best), greatest_first, best, len(ways), sum(greatest_first) - sum(best)]
        self.assertEqual(told, asked, (system, number))


class OrdinaryTest(unittest.TestCase):
    def test_the_greatest_first(self):
        self.assertEqual(by_greatest((1, 3, 4), 6), (2, 0, 1))
        self.assertEqual(by_greatest(CENTS, 99), (4, 0, 2, 1, 1, 0))
        self.assertEqual(by_greatest(PENCE, 388), (1, 1, 1, 1, 1, 1, 1, 1))

    def test_the_fewest(self):
        self.assertEqual(by_fewest((1, 3, 4), 6), (0, 2, 0))
        self.assertEqual(fewest((1, 3, 4), 6), 2)
        self.assertEqual(fewest((1, 10, 25), 30), 3)
        self.assertEqual(by_fewest((1, 10, 25), 30), (0, 3, 0))

    def test_of_several_fewest_the_one_with_most_of_the_greatest(self):
        # 8 is 4+4, too.
        self.assertEqual(by_fewest((1, 3, 4, 5), 8), (0, 1, 0, 1))
        # 14 is 7+7 as well as 9+5; the greatest first needs three coins.
        self.assertEqual(by_fewest((1, 5, 7, 9, 12), 14), (0, 1, 0, 1, 0))

    def test_of_these_the_one_with_most_of_the_next(self):
        # 30 is 20+5+5 and 20+7+3, and never two coins.
        self.assertEqual(by_fewest((1, 3, 5, 7, 20), 30), (0, 1, 0, 1, 1))

    def test_count_of_ways(self):
        self.assertEqual(count_ways(CENTS, 100), 293)
        self.assertEqual(count_ways(PENCE, 200), 73682)

    def test_the_excess(self):
        self.assertEqual(excess((1, 3, 4), 6), 1)
        self.assertEqual(excess((1, 10, 25), 30), 3)
        self.assertEqual(excess(PENCE, 399), 0)

    def test_sum_of(self):
        self.assertEqual(sum_of((1, 2, 5), (1, 2, 3)), 20)
        self.assertEqual(sum_of((1, 3, 4), (2, 0, 1)), 6)
        self.assertEqual(sum_of(PENCE, (1, 1, 1, 1, 1, 1, 1, 1)), 388)

    def test_the_ways_pay_their_sum(self):
        for system in EDGE_SYSTEMS:
            for number in range(0, 2001, 125):
                for function in (by_greatest, by_fewest):
                    way = function(system, number)
                    self.assertIsInstance(way, tuple)
                    self.assertEqual(sum_of(system, way), number)

    def test_the_fewest_are_as_many_as_their_way_has(self):
        for system in EDGE_SYSTEMS:
            for number in range(0, 2001, 111):
                self.assertEqual(sum(by_fewest(system, number)), fewest(system, number))


class EdgesTest(unittest.TestCase):
    def test_a_sum_of_0(self):
        for system in EDGE_SYSTEMS:
            none = (0,) * len(system)
            told = [function(system, 0) for function in OF_A_SUM]
            self.assertEqual(told, [0, none, none, 1, 0], system)
            self.assertEqual(sum_of(system, none), 0)

    def test_a_sum_of_2000_with_one_coin(self):
        told = [function((1,), 2000) for function in OF_A_SUM]
        self.assertEqual(told, [2000, (2000,), (2000,), 1, 0])

    def test_a_sum_of_2000_with_the_greatest_coin(self):
        told = [function((1, 200), 2000) for function in OF_A_SUM]
        self.assertEqual(told, [10, (0, 10), (0, 10), 11, 0])
        told = [function((1, 2), 2000) for function in OF_A_SUM]
        self.assertEqual(told, [1000, (0, 1000), (0, 1000), 1001, 0])

    def test_a_great_excess(self):
        self.assertEqual(by_greatest((1, 199, 200), 398), (198, 0, 1))
        self.assertEqual(by_fewest((1, 199, 200), 398), (0, 2, 0))
        self.assertEqual(excess((1, 199, 200), 398), 197)
        self.assertEqual(by_fewest((1, 199, 200), 1990), (0, 10, 0))
        self.assertEqual(excess((1, 199, 200), 1990), 189)

    def test_eight_coins_of_which_one_is_200(self):
        self.assertEqual(fewest(PENCE, 2000), 10)
        self.assertEqual(by_greatest(PENCE, 1999), (0, 2, 1, 0, 2, 1, 1, 9))
        self.assertEqual(by_fewest(PENCE, 1999), (0, 2, 1, 0, 2, 1, 1, 9))
        close = (1, 194, 195, 196, 197, 198, 199, 200)
        self.assertEqual(by_greatest(close, 388), (188, 0, 0, 0, 0, 0, 0, 1))
        self.assertEqual(by_fewest(close, 388), (0, 2, 0, 0, 0, 0, 0, 0))
        # 396 is 197+199 and 198+198, too.
        self.assertEqual(by_fewest(close, 396), (0, 0, 0, 1, 0, 0, 0, 1))

    def test_numbers_of_0_and_2000_in_a_way(self):
        self.assertEqual(sum_of((1,), (0,)), 0)
        self.assertEqual(sum_of((1,), (2000,)), 2000)
        # What a way comes to may be beyond the sums that are paid.
        self.assertEqual(sum_of((1, 200), (2000, 2000)), 402000)
        self.assertEqual(sum_of(PENCE, (2000,) * 8), 776000)
        self.assertEqual(sum_of((1, 2), (1, 1000)), 2001)


class RefusedTest(RefusalCase):
    def test_what_is_no_system(self):
        for function in OF_A_SUM:
            for place, thing in enumerate(NO_SYSTEMS):
                with self.subTest(function=function.__name__, place=place):
                    self.assert_refused(BadSystem, function, thing, 5)

    def test_what_is_no_system_for_a_way(self):
        for place, thing in enumerate(NO_SYSTEMS):
            with self.subTest(place=place):
                self.assert_refused(BadSystem, sum_of, thing, (1, 1))

    def test_what_is_no_sum(self):
        for function in OF_A_SUM:
            for system in [(1,), (1, 2, 5), PENCE]:
                for place, thing in enumerate(NO_SUMS):
                    with self.subTest(function=function.__name__, system=system, place=place):
                        self.assert_refused(BadSum, function, system, thing)

    def test_what_is_no_way(self):
        for place, thing in enumerate(NO_WAYS):
            with self.subTest(place=place):
                self.assert_refused(BadWay, sum_of, (1, 2, 5), thing)

    def test_no_way_of_one_coin_or_eight(self):
        for thing in [(), (1, 1), (2001,), (-1,), (True,), 1]:
            self.assert_refused(BadWay, sum_of, (1,), thing)
        for thing in [(0,) * 7, (0,) * 9, (0,) * 7 + (2001,), (0,) * 7 + (True,), [0] * 8]:
            self.assert_refused(BadWay, sum_of, PENCE, thing)

    def test_of_several_refusals_the_one_of_the_system(self):
        for system in NO_SYSTEMS:
            for function in OF_A_SUM:
                for number in NO_SUMS:
                    self.assert_refused(BadSystem, function, system, number)
            for way in NO_WAYS:
                self.assert_refused(BadSystem, sum_of, system, way)


class NothingKeptTest(RefusalCase):
    def test_answers_do_not_hang_on_calls_before(self):
        calls = [(function, system, number)
                 for function in OF_A_SUM
                 for system in [(1, 3, 4), (1, 4), (1, 3, 4, 6)]
                 for number in (6, 0, 12)]
        there = [function(system, number) for function, system, number in calls]
        self.assert_refused(BadSum, fewest, (1, 3, 4), 2001)
        back = [function(system, number) for function, system, number in reversed(calls)]
        self.assertEqual(there, back[::-1])

    def test_what_is_refused_is_not_changed(self):
        coins, sums, times = [1, 2], [5], [1, 1]
        self.assert_refused(BadSystem, by_fewest, coins, 5)
        self.assert_refused(BadSum, by_fewest, (1, 2), sums)
        self.assert_refused(BadWay, sum_of, (1, 2), times)
        self.assertEqual((coins, sums, times), ([1, 2], [5], [1, 1]))


if __name__ == "__main__":
    unittest.main()
