"""Wrong things to hand in, small systems to try, and the slow answers that the tests compare with."""

import unittest
from itertools import combinations

from tillcoins.errors import TillError

HUGE = 10 ** 5000  # more figures than Python turns into a text by itself

NO_SYSTEMS = [
    # another kind of thing
    None, True, False, 0, 1, 1.0, "", "1", "2/1", b"\x01", object(), len, range(1, 3),
    [], [1], [1, 2], {}, {1: 2}, {1, 2}, frozenset([1]),
    # no coin, or nine
    (), (1, 2, 3, 4, 5, 6, 7, 8, 9),
    # not beginning with 1
    (2,), (200,), (2, 3), (0,), (0, 1), (-1, 1), (2, 1),
    # a coin twice
    (1, 1), (1, 2, 2), (1, 2, 2, 3), (1, 2, 3, 3),
    # falling somewhere
    (1, 3, 2), (1, 5, 4, 6), (1, 2, 3, 4, 5, 6, 8, 7), (1, 0), (1, -2),
    # beyond the greatest coin
    (1, 201), (1, 200, 201), (201,), (1, HUGE),
    # a truth, a text or another kind among the coins
    (True,), (True, 2), (False, 1), (1, True), (1, 2, False), ("1",), (1, "2"), ("1", "2"),
    (None,), (1, None), (1.0,), (1, 2.0), (1, [2]), (1, (2,)), ((1, 2),), (1, object()),
]

NO_NUMBERS = [
    HUGE, -HUGE, True, False, "", "5", "0", "1", None,
    0.0, 1.0, 5.0, [], [5], (), (5,), {}, {5}, b"5", object(), len, range(5),
]

NO_SUMS = [-1, -2000, 2001, 2002] + NO_NUMBERS

# No way of a system of three coins.
NO_WAYS = [
    # another kind of thing
    None, True, 0, 3, 1.0, "", "111", b"\x01\x01\x01", object(), len, range(3),
    [], [1, 1, 1], {}, {0: 1, 1: 1, 2: 1}, {1, 2, 3},
    # too short, too long
    (), (1,), (1, 1), (1, 1, 1, 1), (0, 0, 0, 0),
    # a number below 0 or above 2000
    (-1, 1, 1), (1, -1, 1), (1, 1, -1), (2001, 0, 0), (0, 2001, 0), (0, 0, 2001), (0, 0, HUGE),
    # a truth or another kind among the numbers
    (True, 0, 0), (0, False, 0), (0, 0, True), ("1", 0, 0), (0, "", 0), (0, 0, None),
    (0, 1.0, 0), (0, [1], 0), (0, 0, (1,)), (object(), 0, 0),
]

EDGE_SYSTEMS = [
    (1,), (1, 200), (1, 2), (1, 199, 200),
    (1, 2, 3, 4, 5, 6, 7, 8), (1, 194, 195, 196, 197, 198, 199, 200),
    (1, 2, 5, 10, 20, 50, 100, 200),
]

CENTS = (1, 5, 10, 25, 50, 100)
PENCE = (1, 2, 5, 10, 20, 50, 100, 200)

NOT_ORDERLY = [
    (1, 3, 4), (1, 10, 25), (1, 2, 4, 5), (1, 199, 200), (1, 5, 6, 8, 11),
    (1, 194, 195, 196, 197, 198, 199, 200),
]


def no_numbers_from(least, most):
    """What is no whole number from the one to the other."""
    return [least - 1, least - 2, most + 1, most + 2] + NO_NUMBERS


def small_systems(greatest):
    """All systems of up to four coins, none greater than this."""
    systems = []
    for many in range(4):
        for others in combinations(range(2, greatest + 1), many):
            systems.append((1,) + others)
    return systems


def all_ways(system, number):
    """Every way that pays this sum, by trying."""
    if len(system) == 1:
        return [(number,)]
    ways = []
    for times in range(number // system[-1] + 1):
        for way in all_ways(system[:-1], number - times * system[-1]):
            ways.append(way + (times,))
    return ways


def greatest_one_by_one(system, number):
    """The way of the greatest first, one coin at a time as the document tells it."""
    way = [0] * len(system)
    while number > 0:
        greatest = max(coin for coin in system if coin <= number)
        way[system.index(greatest)] += 1
        number -= greatest
    return tuple(way)


def best_of(ways):
    """Of these the one with the fewest coins, then with most of the greatest coin, and on."""
    return min(ways, key=lambda way: (sum(way), [-times for times in reversed(way)]))


def fewest_by_trying(system, last):
    """How many coins the sums from 0 to last need: all sums of one coin are made, of two, and on."""
    found, newest, many = {0: 0}, {0}, 0
    while len(found) <= last:
        many += 1
        newest = {number + coin for number in newest for coin in system} - found.keys()
        newest = {number for number in newest if number <= last}
        found.update((number, many) for number in newest)
    return [found[number] for number in range(last + 1)]


def faults_by_trying(system, last):
    """All sums up to last for which the greatest first, one coin at a time, takes more than are needed."""
    needed = fewest_by_trying(system, last)
    taken = [sum(greatest_one_by_one(system, number)) for number in range(last + 1)]
    return [number for number in range(last + 1) if taken[number] > needed[number]]


def handed_by_trying(system, last):
    """How many coins to and fro the sums from 0 to last need: all sums of one coin are made, of two, and on."""
    found, newest, many = {0: 0}, {0}, 0
    steps = [sign * coin for coin in system for sign in (1, -1)]
    while not all(number in found for number in range(last + 1)):
        many += 1
        newest = {number + step for number in newest for step in steps} - found.keys()
        found.update((number, many) for number in newest)
    return [found[number] for number in range(last + 1)]


class RefusalCase(unittest.TestCase):
    def assert_refused(self, error, function, *things):
        with self.assertRaises(TillError) as caught:
            function(*things)
        self.assertIs(type(caught.exception), error)
