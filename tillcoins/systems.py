"""Systems of coins and their beginnings."""

from tillcoins.checks import is_number
from tillcoins.errors import BadSystem

MOST_COINS = 8
GREATEST_COIN = 200


def checked(system):
    # The words name no value: a thing of any kind may be refused, and not each can be shown.
    if not is_system(system):
        raise BadSystem("a system is a tuple of 1 to 8 rising whole numbers up to 200, the first one 1")
    return system


def beginnings(system):
    checked(system)
    return [system[:many] for many in range(1, len(system) + 1)]


def is_system(thing):
    if not isinstance(thing, tuple) or not 1 <= len(thing) <= MOST_COINS:
        return False
    # The kinds come first, so that only numbers are compared with one another.
    if not all([is_number(coin, 1, GREATEST_COIN) for coin in thing]):
        return False
    return thing[0] == 1 and is_rising(thing)


def is_rising(coins):
    return all([coin < following for coin, following in zip(coins, coins[1:])])
