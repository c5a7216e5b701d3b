"""Systems written as texts, and read from them."""

from tillcoins.errors import BadText
from tillcoins.systems import GREATEST_COIN, checked, is_system


def shown(system):
    checked(system)
    return "/".join([str(coin) for coin in reversed(system)])


def read(text):
    if not isinstance(text, str):
        raise BadText("a system is read from a text")
    coins = coins_by_figures()
    # What is no coin in figures becomes None, and no system has that.
    system = tuple([coins.get(figures) for figures in reversed(text.split("/"))])
    if not is_system(system):
        raise BadText("a system is written by its coins in figures, from the greatest to 1, with a / between")
    return system


def coins_by_figures():
    # Looked up and not reckoned: Python reads signs, blanks and foreign figures as numbers, too.
    coins = {}
    for coin in range(1, GREATEST_COIN + 1):
        coins[str(coin)] = coin
    return coins
