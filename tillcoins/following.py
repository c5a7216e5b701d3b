"""Coins that may follow in an orderly system, so that it is orderly with them, too."""

from tillcoins.checks import is_number
from tillcoins.errors import BadNumber, NotOrderly
from tillcoins.orders import is_orderly
from tillcoins.paying import greatest_first_up_to
from tillcoins.systems import GREATEST_COIN, MOST_COINS


def may_follow(system, coin):
    refuse_not_orderly(system)
    refuse_full(system)
    if not is_number(coin, system[-1] + 1, GREATEST_COIN):
        raise BadNumber("a coin that follows is a whole number greater than the greatest coin, and up to 200")
    return keeps_orderly(system[-1], coins_for_rests(system), coin)


def followers(system, last):
    refuse_not_orderly(system)
    refuse_full(system)
    if not is_number(last, 1, GREATEST_COIN):
        raise BadNumber("coins that follow are told up to a whole number from 1 to 200")
    greatest = system[-1]
    needed = coins_for_rests(system)
    return [coin for coin in range(greatest + 1, last + 1) if keeps_orderly(greatest, needed, coin)]


def safe_from(system):
    refuse_not_orderly(system)
    greatest = system[-1]
    # A new coin is the greatest one so many times, less a rest; it may not follow while the times are
    # no more than the coins for the rest. So each rest tells the last of its coins that may not follow.
    last_ones = [needed * greatest - rest for rest, needed in enumerate(coins_for_rests(system))]
    return max(greatest, max(last_ones)) + 1


def refuse_not_orderly(system):
    if not is_orderly(system):
        raise NotOrderly("coins follow only in a system without a fault")


def refuse_full(system):
    if len(system) == MOST_COINS:
        raise BadNumber("no coin follows in a system of 8 coins")


def coins_for_rests(system):
    return greatest_first_up_to(system, system[-1] - 1)


def keeps_orderly(greatest, needed, coin):
    # The times are rounded up, so that the greatest coin taken so often comes to the new coin or more.
    times = (coin + greatest - 1) // greatest
    rest = times * greatest - coin
    return 1 + needed[rest] <= times
