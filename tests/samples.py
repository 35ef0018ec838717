"""Values for the tests, and answers worked out straight from the words of the document."""

from itertools import combinations, permutations

MILL = (5, ((0, 1), (0, 2), (0, 3), (0, 4), (1, 2), (3, 4)))
RING = (5, ((0, 1), (0, 4), (1, 2), (2, 3), (3, 4)))
PATH = (4, ((0, 1), (1, 2), (2, 3)))

NO_INTEGERS = (
    True, False, None, "", "1", "abc", (), (1,), (1, 2), [], [1], {}, {1: 1}, {"halls": 1},
)

# Values that are no nets, each with the part that is wrong first.
NO_NETS = (
    (None, "whole"), (True, "whole"), (False, "whole"), (0, "whole"), (3, "whole"),
    ("", "whole"), ("ab", "whole"), ((), "whole"), ((3,), "whole"), ((3, (), ()), "whole"),
    (((0, 1),), "whole"), ([], "whole"), ([3, ()], "whole"), ([3, ((0, 1),)], "whole"),
    ({}, "whole"), ({0: 3, 1: ()}, "whole"), ({3: (), 4: ()}, "whole"), ([61, None], "whole"),
    ((0, ()), "halls"), ((-1, ()), "halls"), ((61, ()), "halls"), ((10 ** 5000, ()), "halls"),
    ((True, ()), "halls"), ((False, ()), "halls"), ((None, ()), "halls"), (("3", ()), "halls"),
    (((3,), ()), "halls"), (([3], ()), "halls"), (({}, ()), "halls"), ((((0, 1),), 3), "halls"),
    ((0, None), "halls"), ((61, ((1, 0),)), "halls"), ((True, [(0, 1)]), "halls"),
    ((3, None), "pairs"), ((3, 0), "pairs"), ((3, True), "pairs"), ((3, ""), "pairs"),
    ((3, "01"), "pairs"), ((3, []), "pairs"), ((3, [(0, 1)]), "pairs"), ((3, {}), "pairs"),
    ((3, {(0, 1): 1}), "pairs"), ((3, (0, 1)), "pairs"), ((3, (None,)), "pairs"),
    ((3, ("01",)), "pairs"), ((3, ([0, 1],)), "pairs"), ((3, ({0: 0, 1: 1},)), "pairs"),
    ((3, ((),)), "pairs"), ((3, ((0,),)), "pairs"), ((3, ((0, 1, 2),)), "pairs"),
    ((3, ((0, True),)), "pairs"), ((3, ((False, 1),)), "pairs"), ((3, ((True, 2),)), "pairs"),
    ((3, ((0, 1), (False, 2))), "pairs"), ((3, ((0, "1"),)), "pairs"), ((3, ((0, None),)), "pairs"),
    ((3, ((None, 1),)), "pairs"), ((3, (("0", "1"),)), "pairs"), ((3, (((0,), (1,)),)), "pairs"),
    ((3, ((0, [1]),)), "pairs"), ((3, (([0], 1),)), "pairs"), ((3, ((0, {}),)), "pairs"),
    ((3, ((1, 0),)), "pairs"), ((2, ((1, 0),)), "pairs"), ((3, ((0, 1), (2, 1))), "pairs"),
    ((3, ((0, 0),)), "pairs"), ((3, ((2, 2),)), "pairs"), ((3, ((0, 1), (1, 1))), "pairs"),
    ((3, ((0, 1), (0, 1))), "pairs"), ((3, ((0, 1), (0, 2), (0, 2))), "pairs"),
    ((3, ((0, 2), (0, 1))), "pairs"), ((3, ((1, 2), (0, 1))), "pairs"),
    ((4, ((1, 2), (0, 3))), "pairs"), ((3, ((0, 1), (1, 2), (0, 2))), "pairs"),
    ((3, ((0, 1), (0, 2), (0, 1))), "pairs"),
    ((1, ((0, 1),)), "pairs"), ((1, ((0, 0),)), "pairs"), ((3, ((0, 3),)), "pairs"),
    ((3, ((0, 1), (0, 3))), "pairs"), ((3, ((3, 4),)), "pairs"), ((3, ((-1, 0),)), "pairs"),
    ((3, ((-2, -1),)), "pairs"), ((60, ((59, 60),)), "pairs"), ((60, ((0, 60),)), "pairs"),
    ((3, ((0, 10 ** 5000),)), "pairs"),
)


def all_nets(halls):
    """Every net of so many halls."""
    pairs = list(combinations(range(halls), 2))
    for mask in range(2 ** len(pairs)):
        yield (halls, tuple(pair for bit, pair in enumerate(pairs) if mask >> bit & 1))


def full_net(halls):
    """The net in which any two halls are joined."""
    return (halls, tuple(combinations(range(halls), 2)))


def star(halls):
    """The net in which hall 0 is joined to all others, and these to no other."""
    return (halls, tuple((0, hall) for hall in range(1, halls)))


def renamed(net, names):
    """The net in which hall k is called names[k]."""
    halls, pairs = net
    return (halls, tuple(sorted(tuple(sorted((names[x], names[y]))) for x, y in pairs)))


def all_renamed(net):
    """The net under all names of its halls, each net once."""
    return {renamed(net, names) for names in permutations(range(net[0]))}


def turned(net, one, other):
    """The net with two halls joined if they weren't, and parted if they were."""
    return (net[0], tuple(sorted(set(net[1]) ^ {(one, other)})))


def are_joined(net, one, other):
    return (one, other) in net[1] or (other, one) in net[1]


def friends_by_words(net, hall):
    return tuple(other for other in range(net[0]) if are_joined(net, hall, other))


def common_by_words(net, one, other):
    return tuple(
        hall for hall in range(net[0]) if are_joined(net, hall, one) and are_joined(net, hall, other)
    )


def one_friend_by_words(net):
    return all(
        len(common_by_words(net, one, other)) == 1 for one, other in combinations(range(net[0]), 2)
    )
