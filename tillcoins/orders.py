"""Faults: sums for which the greatest coin first takes too many; and the systems that have none."""

from tillcoins.checks import is_number
from tillcoins.errors import BadNumber
from tillcoins.paying import by_fewest, by_greatest, fewest_up_to, greatest_first_up_to
from tillcoins.systems import beginnings, checked

GREATEST_LAST_FAULT = 400
MOST_COINS_LISTED = 5
GREATEST_COIN_LISTED = 14


def first_fault(system):
    checked(system)
    # If there is any fault, the first one is less than the two greatest coins together.
    faults = faults_up_to(system, sum(system[-2:]) - 1)
    return faults[0] if faults else None


def is_orderly(system):
    return first_fault(system) is None


def why_not(system):
    fault = first_fault(system)
    if fault is None:
        return None
    return (fault, by_greatest(system, fault), by_fewest(system, fault))


def orderly_beginnings(system):
    # Each is tried by itself: an orderly system may have a beginning that is not orderly.
    return [len(beginning) for beginning in beginnings(system) if is_orderly(beginning)]


def all_faults(system, last):
    checked(system)
    if not is_number(last, 0, GREATEST_LAST_FAULT):
        raise BadNumber("faults are told up to a whole number from 0 to 400")
    return faults_up_to(system, last)


def all_orderly(many, last):
    if not is_number(many, 1, MOST_COINS_LISTED):
        raise BadNumber("orderly systems are told of so many coins, a whole number from 1 to 5")
    if not is_number(last, 1, GREATEST_COIN_LISTED):
        raise BadNumber("orderly systems are told with coins up to a whole number from 1 to 14")
    return [system for system in all_systems(many, last) if is_orderly(system)]


def faults_up_to(system, last):
    taken = greatest_first_up_to(system, last)
    needed = fewest_up_to(system, last)
    return [number for number in range(last + 1) if taken[number] > needed[number]]


def all_systems(many, last):
    systems = [(1,)]
    while systems and len(systems[0]) < many:
        systems = one_coin_longer(systems, last)
    return systems


def one_coin_longer(systems, last):
    longer = []
    for system in systems:
        longer.extend([system + (coin,) for coin in range(system[-1] + 1, last + 1)])
    return longer
