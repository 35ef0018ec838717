"""What four numbers tell of a net: halls, friends, and common friends of joined halls, of others."""

from math import isqrt

from onefriend.checks import check_number
from onefriend.nets import counts
from onefriend.samenumbers import same_degree

MOST_TOLD_HALLS = 1000


def told(net):
    """The four numbers by which a net is told, None for a net that isn't."""
    joined, apart = counts(net)
    degree = same_degree(net)
    if degree is None or len(joined) != 1 or len(apart) != 1:
        return None
    return (net[0], degree, joined[0], apart[0])


def check_four(halls, friends, joined, apart):
    """Raise BadNumber unless each of the four numbers is within its bounds."""
    check_number(halls, 3, MOST_TOLD_HALLS)
    check_number(friends, 1, halls - 2)
    check_number(joined, 0, friends - 1)
    check_number(apart, 0, friends)


def rest_told(halls, friends, joined, apart):
    """The four numbers by which the rest of a net told by these four is told."""
    check_four(halls, friends, joined, apart)
    rest_joined = halls - 2 - 2 * friends + apart
    rest_apart = halls - 2 * friends + joined
    return (halls, halls - 1 - friends, rest_joined, rest_apart)


def lead_of_shares(halls, friends, joined, apart):
    """The first share less the second, None if no integer is."""
    weight = 2 * friends + (halls - 1) * (joined - apart)
    if weight == 0:
        return 0
    # Above 0, and so is its root: if apart is as many as friends, joined is less than apart.
    square = (joined - apart) ** 2 + 4 * (friends - apart)
    root = isqrt(square)
    if root * root != square or weight % root != 0:
        return None
    return -weight // root


def shares(halls, friends, joined, apart):
    """The two shares of the other halls by the four numbers, None if these break a rule."""
    check_four(halls, friends, joined, apart)
    if friends * (friends - joined - 1) != (halls - friends - 1) * apart:
        return None
    lead = lead_of_shares(halls, friends, joined, apart)
    others = halls - 1
    if lead is None or abs(lead) > others or (others + lead) % 2 != 0:
        return None
    return ((others + lead) // 2, (others - lead) // 2)


def may_be_told(halls, friends, joined, apart):
    """Whether the four numbers have shares, as those of each told net do."""
    return shares(halls, friends, joined, apart) is not None
