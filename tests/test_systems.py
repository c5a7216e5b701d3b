import unittest

from tests.samples import EDGE_SYSTEMS, NO_SYSTEMS, RefusalCase, small_systems
from tillcoins.errors import BadSystem
from tillcoins.systems import beginnings, checked


class CheckedTest(RefusalCase):
    def test_a_system_is_told_as_it_is(self):
        for system in EDGE_SYSTEMS + small_systems(7):
            with self.subTest(system=system):
                told = checked(system)
                self.assertEqual(told, system)
                self.assertIsInstance(told, tuple)

    def test_what_is_no_system_is_refused(self):
        for place, thing in enumerate(NO_SYSTEMS):
            with self.subTest(place=place):
                self.assert_refused(BadSystem, checked, thing)

    def test_a_refused_list_is_not_changed(self):
        for function in (checked, beginnings):
            coins = [5, 2, 1, 2]
            self.assert_refused(BadSystem, function, coins)
            self.assertEqual(coins, [5, 2, 1, 2])


class BeginningsTest(RefusalCase):
    def test_the_shortest_first_up_to_the_system_itself(self):
        self.assertEqual(beginnings((1, 2, 5, 10)), [(1,), (1, 2), (1, 2, 5), (1, 2, 5, 10)])

    def test_one_coin_and_eight(self):
        self.assertEqual(beginnings((1,)), [(1,)])
        eight = (1, 2, 5, 10, 20, 50, 100, 200)
        told = beginnings(eight)
        self.assertEqual([len(beginning) for beginning in told], [1, 2, 3, 4, 5, 6, 7, 8])
        self.assertEqual(told[-1], eight)
        self.assertEqual(told[-2], (1, 2, 5, 10, 20, 50, 100))

    def test_each_is_a_system_and_they_stand_in_a_list(self):
        for system in EDGE_SYSTEMS:
            told = beginnings(system)
            self.assertIsInstance(told, list)
            for beginning in told:
                self.assertEqual(checked(beginning), beginning)

    def test_the_list_is_a_new_one_each_time(self):
        system = (1, 3, 4)
        told = beginnings(system)
        told.append("more")
        told[0] = None
        self.assertEqual(beginnings(system), [(1,), (1, 3), (1, 3, 4)])
        self.assertEqual(system, (1, 3, 4))

    def test_what_is_no_system_is_refused(self):
        for place, thing in enumerate(NO_SYSTEMS):
            with self.subTest(place=place):
                self.assert_refused(BadSystem, beginnings, thing)


if __name__ == "__main__":
    unittest.main()
