"""What counts as a number, wherever one is asked for."""


def is_number(thing, least, most):
    # To Python True and False are whole numbers; here they are none.
    if isinstance(thing, bool) or not isinstance(thing, int):
        return False
    return least <= thing <= most
