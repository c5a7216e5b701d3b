import unittest
from itertools import combinations

from tests.samples import (
    CENTS, EDGE_SYSTEMS, NO_NUMBERS, NO_SYSTEMS, NOT_ORDERLY, PENCE, RefusalCase,
    all_ways, best_of, faults_by_trying, greatest_one_by_one, no_numbers_from, small_systems,
)
from tillcoins.errors import BadNumber, BadSystem
from tillcoins.orders import all_faults, all_orderly, first_fault, is_orderly, orderly_beginnings, why_not
from tillcoins.paying import by_greatest

OF_A_SYSTEM = (first_fault, is_orderly, why_not, orderly_beginnings)


def orderly_by_trying(many, last):
    # Far beyond 2 * last, where the first fault must lie.
    systems = [(1,) + others for others in combinations(range(2, last + 1), many - 1)]
    return [system for system in systems if not faults_by_trying(system, 5 * last)]


def told_by_two_coins(system, way):
    """The way by the fewest of a first fault, made from its greatest and its least coin alone."""
    places = [place for place, times in enumerate(way) if times > 0]
    least, greatest = places[0], places[-1]
    made = list(by_greatest(system, system[greatest + 1] - 1))
    made[:least] = [0] * least
    made[least] += 1
    return tuple(made)


class AgainstTryingTest(unittest.TestCase):
    """All small systems, beside what trying finds; far beyond the two greatest coins together."""

    def test_faults(self):
        for system in small_systems(11):
            faults = faults_by_trying(system, 60)
            with self.subTest(system=system):
                self.assertEqual(all_faults(system, 60), faults)
                self.assertEqual(first_fault(system), faults[0] if faults else None)
                self.assertIs(is_orderly(system), not faults)
                self.assertEqual(why_not(system) is None, not faults)

    def test_why_not(self):
        for system in small_systems(11):
            told = why_not(system)
            if told is not None:
                fault = first_fault(system)
                best = best_of(all_ways(system, fault))
                self.assertEqual(told, (fault, greatest_one_by_one(system, fault), best), system)

    def test_beginnings(self):
        for system in small_systems(9) + [(1, 2, 4, 5, 8), (1, 3, 4, 6, 9), (1, 2, 3, 5, 6, 9)]:
            orderly = [many for many in range(1, len(system) + 1) if not faults_by_trying(system[:many], 50)]
            self.assertEqual(orderly_beginnings(system), orderly, system)

    def test_all_orderly(self):
        for many in range(1, 6):
            for last in (1, 2, 3, 4, 5, 8, 11):
                with self.subTest(many=many, last=last):
                    self.assertEqual(all_orderly(many, last), orderly_by_trying(many, last))

    def test_edge_systems(self):
        for system in EDGE_SYSTEMS + NOT_ORDERLY + [CENTS]:
            with self.subTest(system=system):
                faults = faults_by_trying(system, 1000)
                self.assertEqual(first_fault(system), faults[0] if faults else None)
                self.assertEqual(all_faults(system, 400), [fault for fault in faults if fault <= 400])


class FirstFaultTest(unittest.TestCase):
    """What the document says of every first fault."""

    def setUp(self):
        systems = small_systems(13) + NOT_ORDERLY + [(1,) + others for others in combinations(range(2, 10), 4)]
        self.reasons = [(system, why_not(system)) for system in systems if not is_orderly(system)]
        self.assertGreater(len(self.reasons), 100)

    def test_its_bounds(self):
        for system, (fault, by_the_greatest, by_the_fewest) in self.reasons:
            self.assertLess(fault, system[-1] + system[-2], system)
            self.assertGreater(fault, system[2] + 1, system)

    def test_no_coin_stands_in_both_ways(self):
        for system, (fault, by_the_greatest, by_the_fewest) in self.reasons:
            for one, other in zip(by_the_greatest, by_the_fewest, strict=True):
                self.assertEqual(min(one, other), 0, system)

    def test_two_coins_tell_the_way_by_the_fewest(self):
        for system, (fault, by_the_greatest, by_the_fewest) in self.reasons:
            self.assertEqual(told_by_two_coins(system, by_the_fewest), by_the_fewest, system)


class OrdinaryTest(unittest.TestCase):
    def test_orderly_ones(self):
        for system in [CENTS, PENCE, (1, 2, 3), (1, 5, 10)]:
            self.assertIsNone(first_fault(system))
            self.assertIs(is_orderly(system), True)
            self.assertIsNone(why_not(system))
            self.assertEqual(all_faults(system, 400), [])
            self.assertEqual(orderly_beginnings(system), list(range(1, len(system) + 1)))

    def test_one_that_is_not(self):
        self.assertEqual(first_fault((1, 3, 4)), 6)
        self.assertIs(is_orderly((1, 3, 4)), False)
        self.assertEqual(why_not((1, 3, 4)), (6, (2, 0, 1), (0, 2, 0)))
        self.assertIsInstance(why_not((1, 3, 4)), tuple)
        self.assertEqual(all_faults((1, 3, 4), 20), [6, 10, 14, 18])
        self.assertEqual(orderly_beginnings((1, 3, 4)), [1, 2])

    def test_an_orderly_one_with_a_beginning_that_is_not(self):
        self.assertEqual(orderly_beginnings((1, 2, 4, 5, 8)), [1, 2, 3, 5])

    def test_all_orderly_is_rising(self):
        self.assertEqual(all_orderly(3, 5), [(1, 2, 3), (1, 2, 4), (1, 2, 5), (1, 3, 5)])
        for many in range(1, 6):
            told = all_orderly(many, 9)
            self.assertEqual(told, sorted(set(told)))


class EdgesTest(unittest.TestCase):
    def test_one_coin_and_two(self):
        for system in [(1,), (1, 2), (1, 200)]:
            self.assertEqual([function(system) for function in OF_A_SYSTEM],
                             [None, True, None, list(range(1, len(system) + 1))])
            self.assertEqual(all_faults(system, 400), [])

    def test_eight_coins_and_a_coin_of_200(self):
        close = (1, 194, 195, 196, 197, 198, 199, 200)
        self.assertEqual(why_not(close), (388, (188, 0, 0, 0, 0, 0, 0, 1), (0, 2, 0, 0, 0, 0, 0, 0)))
        self.assertEqual(orderly_beginnings(close), [1, 2])
        self.assertEqual(orderly_beginnings(PENCE), [1, 2, 3, 4, 5, 6, 7, 8])
        self.assertEqual(orderly_beginnings((1, 2, 3, 4, 5, 6, 7, 8)), [1, 2, 3, 4, 5, 6, 7, 8])

    def test_the_greatest_first_fault(self):
        self.assertEqual(why_not((1, 199, 200)), (398, (198, 0, 1), (0, 2, 0)))

    def test_faults_up_to_0_and_400(self):
        for system in EDGE_SYSTEMS + NOT_ORDERLY:
            self.assertEqual(all_faults(system, 0), [])
        self.assertEqual(all_faults((1, 199, 200), 400), [398])
        self.assertEqual(all_faults((1, 3, 4), 400), list(range(6, 401, 4)))

    def test_last_itself_is_among_them(self):
        self.assertEqual(all_faults((1, 3, 4), 5), [])
        self.assertEqual(all_faults((1, 3, 4), 6), [6])
        self.assertEqual(all_orderly(2, 3), [(1, 2), (1, 3)])

    def test_the_least_many_and_last(self):
        self.assertEqual(all_orderly(1, 1), [(1,)])
        self.assertEqual(all_orderly(1, 14), [(1,)])
        for many in (2, 3, 4, 5):
            self.assertEqual(all_orderly(many, 1), [])

    def test_the_greatest_many_and_last(self):
        self.assertEqual(all_orderly(2, 14), [(1, coin) for coin in range(2, 15)])
        self.assertEqual(all_orderly(5, 4), [])
        self.assertEqual(all_orderly(5, 5), [(1, 2, 3, 4, 5)])
        told = all_orderly(5, 14)
        self.assertEqual(told, orderly_by_trying(5, 14))
        self.assertIn((1, 2, 4, 5, 8), told)
        self.assertEqual(max(system[-1] for system in told), 14)


class RefusedTest(RefusalCase):
    def test_what_is_no_system(self):
        for place, thing in enumerate(NO_SYSTEMS):
            for function in OF_A_SYSTEM:
                with self.subTest(function=function.__name__, place=place):
                    self.assert_refused(BadSystem, function, thing)
            with self.subTest(function="all_faults", place=place):
                self.assert_refused(BadSystem, all_faults, thing, 5)

    def test_what_is_no_last_for_faults(self):
        for system in [(1,), (1, 3, 4), PENCE]:
            for place, thing in enumerate(no_numbers_from(0, 400)):
                with self.subTest(system=system, place=place):
                    self.assert_refused(BadNumber, all_faults, system, thing)

    def test_what_is_no_number_for_all_orderly(self):
        for place, thing in enumerate(no_numbers_from(1, 5)):
            with self.subTest(many=place):
                self.assert_refused(BadNumber, all_orderly, thing, 5)
        for place, thing in enumerate(no_numbers_from(1, 14)):
            with self.subTest(last=place):
                self.assert_refused(BadNumber, all_orderly, 1, thing)
                self.assert_refused(BadNumber, all_orderly, 5, thing)
        for many in NO_NUMBERS:
            for last in NO_NUMBERS:
                self.assert_refused(BadNumber, all_orderly, many, last)

    def test_of_several_refusals_the_one_of_the_system(self):
        for system in NO_SYSTEMS:
            for last in no_numbers_from(0, 400):
                self.assert_refused(BadSystem, all_faults, system, last)


if __name__ == "__main__":
    unittest.main()
