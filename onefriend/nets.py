"""Nets: some halls, of which any two are joined or not."""

from itertools import combinations

from onefriend.checks import check_hall, check_net, wrong_part


def is_net(value):
    """Whether a value is a net."""
    return wrong_part(value) is None


def friend_rows(net):
    """For each hall of a net, in order, the ascending list of its friends."""
    halls, pairs = net
    rows = [[] for _ in range(halls)]
    # The pairs ascend, so a hall meets its lesser friends first, and the rows ascend too.
    for one, other in pairs:
        rows[one].append(other)
        rows[other].append(one)
    return rows


def friends(net, hall):
    """The ascending tuple of the halls that are joined to a hall."""
    check_net(net)
    check_hall(net, hall)
    return tuple(friend_rows(net)[hall])


def common(net, one, other):
    """The ascending tuple of the friends that two halls have in common."""
    check_net(net)
    check_hall(net, one)
    check_hall(net, other)
    rows = friend_rows(net)
    return tuple(sorted(set(rows[one]) & set(rows[other])))


def counts(net):
    """The numbers of common friends: of joined halls, and of unlike halls that aren't joined."""
    check_net(net)
    rows = friend_rows(net)
    joined = set()
    apart = set()
    for one, other in combinations(range(len(rows)), 2):
        many = len(set(rows[one]) & set(rows[other]))
        if other in rows[one]:
            joined.add(many)
        else:
            apart.add(many)
    return (tuple(sorted(joined)), tuple(sorted(apart)))


def rest(net):
    """The net of as many halls whose pairs are just those that a net doesn't have."""
    check_net(net)
    halls, pairs = net
    present = set(pairs)
    others = [pair for pair in combinations(range(halls), 2) if pair not in present]
    return (halls, tuple(others))
