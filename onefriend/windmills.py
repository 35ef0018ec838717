"""Nets in which any two unlike halls have just one friend in common."""

from onefriend.checks import MOST_HALLS, check_net, check_number
from onefriend.errors import NotOne
from onefriend.nets import counts, friend_rows, is_net


def is_one_friend(net):
    """Whether any two unlike halls of a net have just one friend in common."""
    joined, apart = counts(net)
    return all([many == 1 for many in joined + apart])


def windmill(halls):
    """A net of so many halls for which is_one_friend tells True, None without any."""
    check_number(halls, 1, MOST_HALLS)
    if halls % 2 == 0:
        return None
    spokes = [(0, hall) for hall in range(1, halls)]
    tips = [(hall, hall + 1) for hall in range(1, halls, 2)]
    return (halls, tuple(spokes + tips))


def shows_windmill(halls, value):
    """Whether a value is what windmill may return for so many halls."""
    if windmill(halls) is None:
        return value is None
    return is_net(value) and value[0] == halls and is_one_friend(value)


def hubs(net):
    """The ascending tuple of the halls that are joined to all others."""
    check_net(net)
    rows = friend_rows(net)
    return tuple([hall for hall, row in enumerate(rows) if len(row) == len(rows) - 1])


def blades(net):
    """The ascending tuple of the pairs of a windmill without its least hub."""
    if not is_one_friend(net):
        raise NotOne("some two halls don't have just one friend in common")
    hub = hubs(net)[0]
    return tuple([pair for pair in net[1] if hub not in pair])


def count_windmills(halls):
    """How many nets of so many halls there are for which is_one_friend tells True."""
    check_number(halls, 1, MOST_HALLS)
    if halls % 2 == 0:
        return 0
    if halls == 3:
        # Each of the three is a hub of the same net, which counting by hubs takes for three.
        return 1
    ways = halls
    # The least hall without a partner has halls - 2, halls - 4, .., 1 to choose from.
    for choices in range(1, halls, 2):
        ways = ways * choices
    return ways
