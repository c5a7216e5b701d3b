"""What the document promises over the whole program."""

import copy
import inspect
import unittest
from importlib import import_module

from tests.samples import RefusalCase
from tillcoins.errors import BadNumber, BadSum, BadSystem, BadText
from tillcoins.following import followers, may_follow, safe_from
from tillcoins.hands import fewest_handed, handed
from tillcoins.orders import all_faults, all_orderly, first_fault, is_orderly, orderly_beginnings, why_not
from tillcoins.systems import beginnings
from tillcoins.texts import read, shown

INTERFACE = {
    "systems": {"checked": ["system"], "beginnings": ["system"]},
    "paying": {
        "fewest": ["system", "number"], "by_greatest": ["system", "number"], "by_fewest": ["system", "number"],
        "count_ways": ["system", "number"], "excess": ["system", "number"], "sum_of": ["system", "way"],
    },
    "orders": {
        "first_fault": ["system"], "is_orderly": ["system"], "why_not": ["system"],
        "orderly_beginnings": ["system"], "all_faults": ["system", "last"], "all_orderly": ["many", "last"],
    },
    "following": {"may_follow": ["system", "coin"], "followers": ["system", "last"], "safe_from": ["system"]},
    "hands": {"handed": ["system", "number"], "fewest_handed": ["system", "number"]},
    "texts": {"shown": ["system"], "read": ["text"]},
}

CALLS = [
    (function, system)
    for function in (first_fault, is_orderly, why_not, orderly_beginnings, shown)
    for system in [(1, 3, 4), (1, 3), (1, 2, 4, 5), (1, 2, 4, 5, 8)]
] + [
    (function, system, number)
    for function in (all_faults, followers, handed, fewest_handed)
    for system in [(1, 5), (1, 2, 5), (1,)]
    for number in (17, 1, 40)
] + [
    (all_orderly, 3, 6), (all_orderly, 2, 6), (all_orderly, 3, 5), (may_follow, (1, 3), 4), (may_follow, (1, 2), 4),
    (safe_from, (1, 7)), (safe_from, (1, 2, 7)), (read, "5/2/1"), (read, "2/1"),
]


def answer(call):
    return call[0](*call[1:])


class InterfaceTest(unittest.TestCase):
    def test_names_and_arguments(self):
        for module, functions in INTERFACE.items():
            for name, arguments in functions.items():
                with self.subTest(module=module, name=name):
                    function = getattr(import_module(f"tillcoins.{module}"), name)
                    self.assertEqual(list(inspect.signature(function).parameters), arguments)


class NothingKeptTest(RefusalCase):
    def test_answers_do_not_hang_on_calls_before(self):
        there = [answer(call) for call in CALLS]
        self.assert_refused(BadNumber, all_faults, (1, 3, 4), 401)
        self.assert_refused(BadText, read, "1/2")
        back = [answer(call) for call in reversed(CALLS)]
        self.assertEqual(there, back[::-1])

    def test_lists_are_new_ones_each_time(self):
        for call in [(beginnings, (1, 3, 4))] + CALLS:
            told = answer(call)
            before = copy.deepcopy(told)
            for thing in told if isinstance(told, tuple) else (told,):
                if isinstance(thing, list):
                    thing.insert(0, "more")
            self.assertEqual(answer(call), before, call[0].__name__)

    def test_the_two_lists_handed_are_not_one(self):
        given, given_back = handed((1, 5), 0)
        given.append(5)
        self.assertEqual(given_back, [])

    def test_what_is_refused_is_not_changed(self):
        for error, function, things in [
            (BadSystem, first_fault, [[1, 4, 3]]), (BadSystem, orderly_beginnings, [[1, 3, 2]]),
            (BadSystem, all_faults, [[1, 3, 2], 5]), (BadNumber, all_faults, [(1, 2), [5]]),
            (BadNumber, all_orderly, [[3], [5]]), (BadSystem, followers, [[1, 3, 2], 5]),
            (BadNumber, followers, [(1, 2), [5]]), (BadNumber, may_follow, [(1, 2), [5]]),
            (BadSystem, handed, [[2, 1], 5]), (BadSum, handed, [(1, 2), [5]]),
            (BadSystem, shown, [[2, 1]]), (BadText, read, [["2", "1"]]),
        ]:
            before = copy.deepcopy(things)
            self.assert_refused(error, function, *things)
            self.assertEqual(things, before)


if __name__ == "__main__":
    unittest.main()
