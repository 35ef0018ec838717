"""Nets in which joined halls have no friend in common, and other unlike halls just one."""

from onefriend.checks import check_number
from onefriend.nets import counts, is_net
from onefriend.samenumbers import same_degree
from onefriend.windmills import hubs

ALLOWED_FRIENDS = (2, 3, 7, 57)

# For each number of friends, how many rings with steps of one, and of two, make up the net.
RINGS = {2: (1, 0), 3: (1, 1), 7: (5, 5)}


def is_sparse(net):
    """Whether joined halls have no friend in common, and unlike halls that aren't just one."""
    joined, apart = counts(net)
    return all([many == 0 for many in joined]) and all([many == 1 for many in apart])


def is_star(net):
    """Whether one hall is joined to all others, and these to no other hall."""
    # A hub takes a pair for each other hall: without any more, no two of these are joined.
    return len(hubs(net)) > 0 and len(net[1]) == net[0] - 1


def allowed_friends():
    """The numbers of friends that the halls of a sparse net that is no star can have."""
    return ALLOWED_FRIENDS


def ring_pairs(ring, step):
    """The pairs of the ring of five halls that joins each one to that a step ahead."""
    first = 5 * ring
    ends = [(first + place, first + (place + step) % 5) for place in range(5)]
    return [(min(pair), max(pair)) for pair in ends]


def rings_of_five(near, far):
    """The net of so many rings of five halls with steps of one, then of two.

    Robertson's rule joins the near rings to the far ones: each hall has one friend in each ring
    of the other kind. With one ring of each kind this is Petersen's net, with five of each that
    of Hoffman and Singleton.
    """
    pairs = []
    for ring in range(near + far):
        pairs.extend(ring_pairs(ring, 1 if ring < near else 2))
    for one in range(near):
        for other in range(far):
            for place in range(5):
                across = (place + one * other) % 5
                pairs.append((5 * one + place, 5 * (near + other) + across))
    return (5 * (near + far), tuple(sorted(pairs)))


def sparse_net(friends):
    """A sparse net, no star, in which all halls have so many friends, None if none is known."""
    check_number(friends, 0, 100)
    if friends not in RINGS:
        return None
    near, far = RINGS[friends]
    return rings_of_five(near, far)


def shows_sparse(friends, value):
    """Whether a value is what sparse_net may return for so many friends."""
    if sparse_net(friends) is None:
        return value is None
    # No star need be barred: its outer halls have less than two friends.
    return is_net(value) and is_sparse(value) and same_degree(value) == friends
