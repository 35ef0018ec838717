"""Nets in which any two unlike halls have the same number of common friends."""

from onefriend.checks import check_net, check_number
from onefriend.nets import counts, friend_rows


def common_number(net):
    """The number of common friends of any two unlike halls, None without just one such number."""
    joined, apart = counts(net)
    numbers = sorted(set(joined + apart))
    if len(numbers) != 1:
        return None
    return numbers[0]


def same_degree(net):
    """The number of friends that each hall has, None if not all have the same."""
    check_net(net)
    numbers = sorted({len(row) for row in friend_rows(net)})
    if len(numbers) != 1:
        return None
    return numbers[0]


def kept_size(many, root):
    """The pair (halls, friends) with many + root * root friends, None if it breaks a rule."""
    friends = many + root * root
    ways = friends * (friends - 1)
    if friends % root != 0 or ways % many != 0:
        return None
    others = ways // many
    spare = others - friends // root
    if spare < 0 or spare % 2 != 0:
        return None
    return (others + 1, friends)


def sizes(many):
    """All pairs (halls, friends) by which any two halls may have so many friends in common."""
    check_number(many, 2, 1000)
    # A root of friends - many divides the friends just if it divides many, so none is greater.
    # Both numbers of a pair grow with the root, so the pairs ascend.
    found = [kept_size(many, root) for root in range(1, many + 1)]
    return tuple([pair for pair in found if pair is not None])
