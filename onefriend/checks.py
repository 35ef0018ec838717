"""What the modules of the package ask of their arguments.

The messages never show the wrong value: it may be too deep or too long to be written.
"""

from onefriend.errors import BadHall, BadNet, BadNumber

MOST_HALLS = 60


def is_number(value, least, most):
    """Whether a value is an integer from least to most; True and False are none."""
    return isinstance(value, int) and not isinstance(value, bool) and least <= value <= most


def check_number(value, least, most):
    """Raise BadNumber for all but the integers from least to most."""
    if not is_number(value, least, most):
        raise BadNumber(f"no integer from {least} to {most}")


def is_pair(halls, value):
    """Whether a value is a pair of unlike halls, the lesser one first."""
    if not isinstance(value, tuple) or len(value) != 2:
        return False
    one, other = value
    return is_number(one, 0, halls - 1) and is_number(other, one + 1, halls - 1)


def are_pairs(halls, value):
    """Whether a value is an ascending tuple of pairs of halls."""
    if not isinstance(value, tuple):
        return False
    before = ()
    for pair in value:
        # The pair is tested first, since not every value can be compared.
        if not is_pair(halls, pair) or pair <= before:
            return False
        before = pair
    return True


def wrong_part(value):
    """The word for what is wrong first with a value as a net, None for a net."""
    if not isinstance(value, tuple) or len(value) != 2:
        return "whole"
    halls, pairs = value
    if not is_number(halls, 1, MOST_HALLS):
        return "halls"
    if not are_pairs(halls, pairs):
        return "pairs"
    return None


def check_net(value):
    """Raise BadNet for a value that is no net."""
    part = wrong_part(value)
    if part is not None:
        raise BadNet(part)


def check_hall(net, value):
    """Raise BadHall for a value that is no hall of the net."""
    if not is_number(value, 0, net[0] - 1):
        raise BadHall(f"no hall from 0 to {net[0] - 1}")
