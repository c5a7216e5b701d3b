"""A sum handed over to and fro: coins given, and coins given back."""

from tillcoins.checks import is_number
from tillcoins.errors import BadSum
from tillcoins.systems import checked

GREATEST_HANDED = 400


def handed(system, number):
    checked(system)
    if not is_number(number, 0, GREATEST_HANDED):
        raise BadSum("a sum that is handed over is a whole number from 0 to 400")
    steps = steps_back(last_steps(system, number), number)
    given = sorted([step for step in steps if step > 0])
    given_back = sorted([-step for step in steps if step < 0])
    return (given, given_back)


def fewest_handed(system, number):
    return sum([len(coins) for coins in handed(system, number)])


def last_steps(system, number):
    # Any coins to and fro can be put in such an order that one is given while the sum is not reached,
    # and one given back while it is passed. So what has been handed over never strays further from
    # between 0 and the sum than by the greatest coin, and it is enough to look there.
    least = -system[-1]
    most = number + system[-1]
    steps = list(system) + [-coin for coin in system]
    found = {0: 0}
    outermost = [0]
    # One coin more each time, so that the first step that comes to a sum is one of the fewest.
    while number not in found:
        outermost = one_step_further(outermost, steps, found, least, most)
    return found


def one_step_further(outermost, steps, found, least, most):
    further = []
    for handed_over in outermost:
        for step in steps:
            total = handed_over + step
            if least <= total <= most and total not in found:
                found[total] = step
                further.append(total)
    return further


def steps_back(found, number):
    steps = []
    left = number
    while left != 0:
        steps.append(found[left])
        left = left - found[left]
    return steps
