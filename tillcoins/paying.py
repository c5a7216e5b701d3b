"""Ways to pay a sum: the greatest coin first, the fewest coins, and how many ways there are."""

from tillcoins.checks import is_number
from tillcoins.errors import BadSum, BadWay
from tillcoins.systems import checked

GREATEST_SUM = 2000
GREATEST_TIMES = 2000


def fewest(system, number):
    refuse_bad_sum(system, number)
    return fewest_up_to(system, number)[number]


def by_greatest(system, number):
    refuse_bad_sum(system, number)
    falling_way = []
    left = number
    for coin in reversed(system):
        falling_way.append(left // coin)
        left = left % coin
    return tuple(reversed(falling_way))


def by_fewest(system, number):
    refuse_bad_sum(system, number)
    table = fewest_up_to(system, number)
    falling_way = []
    left = number
    for coin in reversed(system):
        taken = times_in_fewest(table, left, coin)
        falling_way.append(taken)
        left = left - taken * coin
    return tuple(reversed(falling_way))


def count_ways(system, number):
    refuse_bad_sum(system, number)
    counts = [1] + [0] * number
    # Coin by coin, so that the same coins in another order are not counted again.
    for coin in system:
        for part in range(coin, number + 1):
            counts[part] = counts[part] + counts[part - coin]
    return counts[number]


def excess(system, number):
    return sum(by_greatest(system, number)) - fewest(system, number)


def sum_of(system, way):
    checked(system)
    if not is_way(system, way):
        raise BadWay("a way is a tuple of a whole number from 0 to 2000 for each coin of the system")
    return sum([coin * times for coin, times in zip(system, way)])


def refuse_bad_sum(system, number):
    # The system is looked at first: of two refusals its own is the one to be told.
    checked(system)
    if not is_number(number, 0, GREATEST_SUM):
        raise BadSum("a sum is a whole number from 0 to 2000")


def is_way(system, thing):
    if not isinstance(thing, tuple) or len(thing) != len(system):
        return False
    return all([is_number(times, 0, GREATEST_TIMES) for times in thing])


def fewest_up_to(system, last):
    table = [0]
    for number in range(1, last + 1):
        table.append(1 + min([table[number - coin] for coin in system if coin <= number]))
    return table


def greatest_first_up_to(system, last):
    table = [0]
    for number in range(1, last + 1):
        table.append(1 + table[number - max([coin for coin in system if coin <= number])])
    return table


def times_in_fewest(table, number, coin):
    # A coin stands in some way with the fewest coins just if the rest needs one coin less.
    # So taking it as long as that holds gives the most of it that such a way can have.
    taken = 0
    left = number
    while coin <= left and table[left - coin] == table[left] - 1:
        left = left - coin
        taken = taken + 1
    return taken
