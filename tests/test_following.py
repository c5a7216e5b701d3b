import unittest

from tests.samples import (
    CENTS, EDGE_SYSTEMS, NO_SYSTEMS, NOT_ORDERLY, PENCE, RefusalCase,
    faults_by_trying, fewest_by_trying, greatest_one_by_one, no_numbers_from, small_systems,
)
from tillcoins.errors import BadNumber, BadSystem, NotOrderly
from tillcoins.following import followers, may_follow, safe_from
from tillcoins.orders import is_orderly

WITH_A_NUMBER = (may_follow, followers)
COUNTING = (1, 2, 3, 4, 5, 6, 7, 8)


def orderly_by_trying(coins):
    return not faults_by_trying(coins, 2 * sum(coins[-2:]))


def has_fault_at(coins, number):
    return sum(greatest_one_by_one(coins, number)) > fewest_by_trying(coins, number)[number]


class AgainstTryingTest(unittest.TestCase):
    """Small orderly systems with each coin behind them, beside whether trying finds a fault."""

    def test_small_systems(self):
        for system in small_systems(7):
            if orderly_by_trying(system):
                self.compare(system, 45)

    def test_greater_systems(self):
        for system in [(1, 2, 4, 5, 8), (1, 5, 10), (1, 2, 3, 5, 8), (1, 2, 5, 10, 20), (1, 2, 3, 4, 5, 6, 7)]:
            self.assertTrue(orderly_by_trying(system), system)
            self.compare(system, 60)

    def compare(self, system, last):
        may = [coin for coin in range(system[-1] + 1, last + 1) if orderly_by_trying(system + (coin,))]
        with self.subTest(system=system):
            self.assertEqual(followers(system, last), may)
            for coin in range(system[-1] + 1, last + 1):
                self.assertIs(may_follow(system, coin), coin in may)

    def test_safe_from(self):
        for system in small_systems(6):
            if orderly_by_trying(system):
                # A coin beyond the greatest one's square always may follow, so 50 is far enough.
                may_not = [coin for coin in range(system[-1] + 1, 50) if not orderly_by_trying(system + (coin,))]
                self.assertEqual(safe_from(system), max([system[-1]] + may_not) + 1, system)


class OrdinaryTest(unittest.TestCase):
    def test_may_follow(self):
        self.assertIs(may_follow((1, 3), 4), False)
        self.assertIs(may_follow((1, 3), 5), True)
        self.assertIs(may_follow((1, 5, 10), 25), True)
        self.assertIs(may_follow((1, 10), 25), False)

    def test_followers(self):
        self.assertEqual(followers((1,), 5), [2, 3, 4, 5])
        self.assertEqual(followers((1, 3), 8), [5, 6, 7, 8])
        self.assertEqual(followers((1, 5), 14), [9, 10, 13, 14])
        self.assertEqual(followers((1, 2, 4), 12), [6, 7, 8, 9, 10, 11, 12])

    def test_safe_from(self):
        self.assertEqual(safe_from((1,)), 2)
        self.assertEqual(safe_from((1, 2)), 3)
        self.assertEqual(safe_from((1, 3)), 5)
        self.assertEqual(safe_from((1, 5)), 17)

    def test_a_system_with_a_beginning_that_is_not_orderly(self):
        system = (1, 2, 4, 5, 8)
        self.assertEqual(followers(system, 16), [coin for coin in range(9, 17) if is_orderly(system + (coin,))])

    def test_all_ways_to_ask_agree(self):
        for system in [(1,), (1, 2), (1, 7), (1, 2, 5), (1, 5, 10, 25), (1, 2, 5, 10, 20, 50, 100)]:
            told = followers(system, 200)
            asked = range(system[-1] + 1, 201)
            self.assertEqual(told, [coin for coin in asked if may_follow(system, coin)])
            self.assertEqual(told, [coin for coin in asked if is_orderly(system + (coin,))])
            safe = safe_from(system)
            self.assertGreater(safe, system[-1])
            for coin in range(safe, 201):
                self.assertIn(coin, told)
            self.assertNotIn(safe - 1, told)


class EdgesTest(RefusalCase):
    def test_a_coin_of_200(self):
        self.assertIs(may_follow((1,), 200), True)
        self.assertIs(may_follow((1, 199), 200), False)
        self.assertIs(may_follow((1, 2, 5, 10, 20, 50, 100), 200), True)
        self.assertIs(may_follow((1, 100), 200), True)

    def test_the_coin_right_behind_the_greatest(self):
        self.assertIs(may_follow((1,), 2), True)
        self.assertIs(may_follow((1, 2), 3), True)
        self.assertIs(may_follow((1, 199), 200), False)

    def test_followers_up_to_1_and_200(self):
        self.assertEqual(followers((1,), 1), [])
        self.assertEqual(followers((1,), 200), list(range(2, 201)))
        self.assertEqual(followers(CENTS, 1), [])
        self.assertEqual(followers((1, 199), 200), [])
        self.assertEqual(followers((1, 100), 200), [199, 200])

    def test_followers_up_to_a_coin_of_the_system_or_less(self):
        for last in (1, 2, 4, 5):
            self.assertEqual(followers((1, 2, 5), last), [])

    def test_no_coin_is_left_behind_200(self):
        self.assertEqual(followers((1, 200), 200), [])
        for coin in (1, 199, 200, 201):
            self.assert_refused(BadNumber, may_follow, (1, 200), coin)

    def test_seven_coins(self):
        self.assertIs(may_follow((1, 2, 3, 4, 5, 6, 7), 8), True)
        self.assertEqual(followers((1, 2, 3, 4, 5, 6, 7), 9), [8, 9])

    def test_eight_coins(self):
        for system in [PENCE, COUNTING]:
            for number in (1, 8, 9, 199, 200):
                self.assert_refused(BadNumber, may_follow, system, number)
                self.assert_refused(BadNumber, followers, system, number)

    def test_safe_from_of_eight_coins(self):
        # 7 coins are needed for 188: 7 * 200 is 1212 and 188.
        self.assertEqual(safe_from(PENCE), 1213)
        self.assertTrue(has_fault_at(PENCE + (1212,), 1400))
        for coin in (1213, 1214, 1300, 1400, 1401):
            self.assertEqual(faults_by_trying(PENCE + (coin,), coin + 200), [], coin)
        self.assertEqual(safe_from(COUNTING), 9)

    def test_safe_from_far_beyond_200(self):
        self.assertEqual(safe_from((1, 200)), 39602)
        # 199 coins of 200: one new coin and 199 more, or one and 198.
        self.assertEqual(sum(greatest_one_by_one((1, 200, 39601), 39800)), 200)
        self.assertEqual(sum(greatest_one_by_one((1, 200, 39602), 39800)), 199)
        self.assertEqual(safe_from((1, 100)), 9802)

    def test_safe_from_a_little_beyond_200(self):
        self.assertEqual(safe_from((1, 16)), 226)
        self.assertFalse(orderly_by_trying((1, 16, 225)))
        for coin in range(226, 260):
            self.assertTrue(orderly_by_trying((1, 16, coin)), coin)


class RefusedTest(RefusalCase):
    def test_what_is_no_system(self):
        for place, thing in enumerate(NO_SYSTEMS):
            with self.subTest(place=place):
                self.assert_refused(BadSystem, may_follow, thing, 100)
                self.assert_refused(BadSystem, followers, thing, 100)
                self.assert_refused(BadSystem, safe_from, thing)

    def test_what_is_not_orderly(self):
        for system in NOT_ORDERLY:
            with self.subTest(system=system):
                self.assert_refused(NotOrderly, may_follow, system, 200)
                self.assert_refused(NotOrderly, followers, system, 200)
                self.assert_refused(NotOrderly, safe_from, system)

    def test_which_systems_are_refused(self):
        for system in EDGE_SYSTEMS + small_systems(8):
            if is_orderly(system):
                self.assertGreater(safe_from(system), system[-1])
            else:
                self.assert_refused(NotOrderly, safe_from, system)

    def test_what_is_no_coin_behind(self):
        for system in [(1,), (1, 5, 10), (1, 200)]:
            for place, thing in enumerate([0, 1] + no_numbers_from(system[-1] + 1, 200)):
                with self.subTest(system=system, place=place):
                    self.assert_refused(BadNumber, may_follow, system, thing)

    def test_what_is_no_last(self):
        for system in [(1,), (1, 5, 10), (1, 200)]:
            for place, thing in enumerate(no_numbers_from(1, 200)):
                with self.subTest(system=system, place=place):
                    self.assert_refused(BadNumber, followers, system, thing)

    def test_of_several_refusals_the_first(self):
        for number in no_numbers_from(1, 200):
            for function in WITH_A_NUMBER:
                for system in NO_SYSTEMS:
                    self.assert_refused(BadSystem, function, system, number)
                for system in NOT_ORDERLY:
                    self.assert_refused(NotOrderly, function, system, number)
                self.assert_refused(BadNumber, function, PENCE, number)


if __name__ == "__main__":
    unittest.main()
