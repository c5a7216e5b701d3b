import unittest

from tests.samples import (
    CENTS, EDGE_SYSTEMS, NO_SYSTEMS, NOT_ORDERLY, PENCE, RefusalCase,
    handed_by_trying, no_numbers_from, small_systems,
)
from tillcoins.errors import BadSum, BadSystem
from tillcoins.hands import fewest_handed, handed


class HandsCase(RefusalCase):
    def assert_handed(self, system, number, needed):
        told = handed(system, number)
        self.assertIsInstance(told, tuple)
        given, given_back = told
        for coins in told:
            self.assertIsInstance(coins, list)
            self.assertEqual(coins, sorted(coins))
            self.assertLessEqual(set(coins), set(system))
        self.assertEqual(sum(given) - sum(given_back), number)
        self.assertEqual(len(given) + len(given_back), needed)
        self.assertEqual(fewest_handed(system, number), needed)


class AgainstTryingTest(HandsCase):
    def test_small_systems(self):
        for system in small_systems(9):
            for number, needed in enumerate(handed_by_trying(system, 40)):
                with self.subTest(system=system, number=number):
                    self.assert_handed(system, number, needed)

    def test_edge_systems_with_all_sums(self):
        for system in EDGE_SYSTEMS[1:] + NOT_ORDERLY + [CENTS]:
            for number, needed in enumerate(handed_by_trying(system, 400)):
                if number % 7 == 0 or number > 390:
                    with self.subTest(system=system, number=number):
                        self.assert_handed(system, number, needed)

    def test_greater_coins(self):
        for system in [(1, 60, 97), (1, 77, 180, 199), (1, 30, 130, 171), (1, 12, 35, 160, 193)]:
            for number, needed in enumerate(handed_by_trying(system, 400)):
                if number % 3 == 0:
                    with self.subTest(system=system, number=number):
                        self.assert_handed(system, number, needed)


class OrdinaryTest(HandsCase):
    def test_where_only_one_answer_is_the_fewest(self):
        self.assertEqual(handed((1, 5, 20), 19), ([20], [1]))
        self.assertEqual(handed((1, 5, 20), 6), ([1, 5], []))
        self.assertEqual(handed((1, 5, 20), 14), ([20], [1, 5]))
        self.assertEqual(handed((1, 5, 20), 38), ([20, 20], [1, 1]))
        self.assertEqual(handed(CENTS, 99), ([100], [1]))

    def test_a_coin_stands_as_often_as_it_is_handed(self):
        self.assertEqual(handed((1, 7, 11), 22), ([11, 11], []))
        self.assertEqual(handed((1, 20, 50), 110), ([20, 20, 20, 50], []))
        # 4 is twice 12 less 20; by giving alone it takes four coins.
        self.assertEqual(handed((1, 12, 20), 4), ([12, 12], [20]))

    def test_fewest_handed(self):
        self.assertEqual(fewest_handed((1, 5, 20), 19), 2)
        self.assertEqual(fewest_handed(PENCE, 388), 4)
        self.assertEqual(fewest_handed((1, 12, 20), 4), 3)

    def test_no_coin_goes_both_ways(self):
        for system in small_systems(7):
            for number in range(20):
                given, given_back = handed(system, number)
                self.assertFalse(set(given) & set(given_back))


class EdgesTest(HandsCase):
    def test_a_sum_of_0(self):
        for system in EDGE_SYSTEMS:
            self.assertEqual(handed(system, 0), ([], []))
            self.assertEqual(fewest_handed(system, 0), 0)

    def test_a_sum_of_400(self):
        self.assertEqual(handed((1,), 400), ([1] * 400, []))
        self.assertEqual(handed((1, 2), 400), ([2] * 200, []))
        self.assertEqual(handed((1, 200), 400), ([200, 200], []))
        self.assertEqual(handed(PENCE, 400), ([200, 200], []))
        self.assertEqual(handed((1, 199), 400), ([1, 1, 199, 199], []))

    def test_one_coin(self):
        for number in (0, 1, 2, 399, 400):
            self.assert_handed((1,), number, number)

    def test_just_around_the_greatest_coin(self):
        self.assertEqual(handed((1, 200), 199), ([200], [1]))
        self.assertEqual(handed((1, 200), 201), ([1, 200], []))
        self.assertEqual(handed((1, 200), 399), ([200, 200], [1]))
        self.assertEqual(fewest_handed((1, 200), 100), 100)
        self.assertEqual(fewest_handed((1, 200), 101), 100)


class RefusedTest(HandsCase):
    def test_what_is_no_system(self):
        for function in (handed, fewest_handed):
            for place, thing in enumerate(NO_SYSTEMS):
                with self.subTest(function=function.__name__, place=place):
                    self.assert_refused(BadSystem, function, thing, 5)

    def test_what_is_no_sum(self):
        for function in (handed, fewest_handed):
            for system in [(1,), (1, 3, 4), PENCE]:
                for place, thing in enumerate([2000] + no_numbers_from(0, 400)):
                    with self.subTest(function=function.__name__, system=system, place=place):
                        self.assert_refused(BadSum, function, system, thing)

    def test_of_several_refusals_the_one_of_the_system(self):
        for function in (handed, fewest_handed):
            for system in NO_SYSTEMS:
                for number in no_numbers_from(0, 400):
                    self.assert_refused(BadSystem, function, system, number)


if __name__ == "__main__":
    unittest.main()
