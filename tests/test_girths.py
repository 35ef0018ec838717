"""Point 5: sparse nets and stars."""

import unittest
from itertools import combinations

from onefriend.errors import BadNet, BadNumber
from onefriend.families import board, couples, groups, squares
from onefriend.girths import allowed_friends, is_sparse, is_star, shows_sparse, sparse_net
from onefriend.nets import is_net, rest
from onefriend.windmills import windmill
from tests.samples import (
    MILL, NO_INTEGERS, NO_NETS, PATH, RING, all_nets, all_renamed, are_joined, common_by_words,
    friends_by_words, full_net, renamed, star, turned,
)

KNOWN = (2, 3, 7)


def sparse_by_words(net):
    for one, other in combinations(range(net[0]), 2):
        many = len(common_by_words(net, one, other))
        if many != (0 if are_joined(net, one, other) else 1):
            return False
    return True


def star_by_words(net):
    for middle in range(net[0]):
        others = [hall for hall in range(net[0]) if hall != middle]
        if all(friends_by_words(net, hall) == (middle,) for hall in others):
            return True
    return False


def ring(halls):
    return (halls, tuple(sorted(
        tuple(sorted((hall, (hall + 1) % halls))) for hall in range(halls)
    )))


def star_around(halls, middle):
    return renamed(star(halls), [middle] + [hall for hall in range(halls) if hall != middle])


def mixed(net):
    """The same net under other names of its halls."""
    return renamed(net, [(7 * hall + 3) % net[0] for hall in range(net[0])])


class SparseTest(unittest.TestCase):
    def test_all_small_nets(self):
        found = []
        for halls in range(1, 6):
            for net in all_nets(halls):
                self.assertEqual(is_sparse(net), sparse_by_words(net), net)
                if is_sparse(net) and not is_star(net):
                    found.append(net)
        self.assertEqual(set(found), all_renamed(RING))

    def test_stars(self):
        for halls in range(1, 61):
            self.assertIs(is_sparse(star(halls)), True)
            self.assertIs(is_sparse(star_around(halls, halls // 2)), True)

    def test_rings(self):
        for halls in range(3, 61):
            self.assertIs(is_sparse(ring(halls)), halls == 5)
        self.assertIs(is_sparse(RING), True)
        self.assertIs(is_sparse(rest(RING)), True)

    def test_nets_without_pairs(self):
        self.assertIs(is_sparse((1, ())), True)
        for halls in range(2, 61):
            self.assertIs(is_sparse((halls, ())), False)

    def test_bent_nets(self):
        for net in (RING, star(6), sparse_net(3), mixed(sparse_net(3))):
            for one, other in combinations(range(net[0]), 2):
                bent = turned(net, one, other)
                self.assertIs(is_sparse(bent), False)
                self.assertIs(sparse_by_words(bent), False)
        for one, other in ((0, 1), (0, 2), (0, 49), (24, 25), (48, 49)):
            self.assertIs(is_sparse(turned(sparse_net(7), one, other)), False)

    def test_joined_and_other_halls_both_count(self):
        # In a mill other halls have just one friend in common, and so have joined ones.
        self.assertIs(is_sparse(MILL), False)
        self.assertIs(is_sparse(windmill(3)), False)
        # In a ring of four joined halls have none, and so have partners that know no one else.
        self.assertIs(is_sparse(ring(4)), False)
        self.assertIs(is_sparse((4, ((0, 1), (2, 3)))), False)
        self.assertIs(is_sparse(PATH), False)
        for halls in range(3, 61):
            self.assertIs(is_sparse(full_net(halls)), False)
        for net in (board(3), couples(5), squares(13), groups(2, 30)):
            self.assertIs(is_sparse(net), False)

    def test_no_net(self):
        for value, part in NO_NETS:
            with self.assertRaises(BadNet, msg=value) as caught:
                is_sparse(value)
            self.assertEqual(caught.exception.part, part)


class StarTest(unittest.TestCase):
    def test_all_small_nets(self):
        for halls in range(1, 6):
            for net in all_nets(halls):
                self.assertEqual(is_star(net), star_by_words(net), net)

    def test_stars_around_any_hall(self):
        for halls in list(range(1, 12)) + [59, 60]:
            for middle in range(halls):
                self.assertIs(is_star(star_around(halls, middle)), True)

    def test_one_and_two_halls(self):
        self.assertIs(is_star((1, ())), True)
        self.assertIs(is_star((2, ((0, 1),))), True)
        self.assertIs(is_star((2, ())), False)

    def test_bent_stars(self):
        for halls in (3, 4, 7, 60):
            net = star_around(halls, halls - 2)
            for one, other in combinations(range(halls), 2):
                self.assertIs(is_star(turned(net, one, other)), False)

    def test_other_nets(self):
        for net in (RING, PATH, MILL, ring(4), full_net(3), full_net(60), (3, ()), (60, ()),
                    (4, ((0, 1), (0, 2), (1, 2))), (5, ((0, 1), (0, 2), (0, 3), (3, 4)))):
            self.assertIs(is_star(net), False)
        for friends in KNOWN:
            self.assertIs(is_star(sparse_net(friends)), False)

    def test_no_net(self):
        for value, part in NO_NETS:
            with self.assertRaises(BadNet, msg=value) as caught:
                is_star(value)
            self.assertEqual(caught.exception.part, part)


class SparseNetTest(unittest.TestCase):
    def test_allowed_friends(self):
        self.assertEqual(allowed_friends(), (2, 3, 7, 57))
        self.assertIs(type(allowed_friends()), tuple)

    def test_each_number(self):
        for friends in range(101):
            net = sparse_net(friends)
            if friends not in KNOWN:
                self.assertIsNone(net, friends)
                continue
            self.assertIs(is_net(net), True)
            self.assertEqual(net[0], friends * friends + 1)
            for hall in range(net[0]):
                self.assertEqual(len(friends_by_words(net, hall)), friends)
            self.assertIs(is_sparse(net), True)
            self.assertIs(sparse_by_words(net), True)
            self.assertIs(star_by_words(net), False)

    def test_no_such_number(self):
        for friends in NO_INTEGERS + (-1, -2, -7, 101, 102, 1000, 10 ** 5000, -10 ** 5000):
            with self.assertRaises(BadNumber, msg=friends):
                sparse_net(friends)


class ShowsSparseTest(unittest.TestCase):
    def test_what_sparse_net_tells(self):
        for friends in range(101):
            self.assertIs(shows_sparse(friends, sparse_net(friends)), True)
            for other in range(101):
                right = other == friends or (friends not in KNOWN and other not in KNOWN)
                self.assertIs(shows_sparse(friends, sparse_net(other)), right)

    def test_all_small_nets(self):
        rings = all_renamed(RING)
        for halls in range(1, 6):
            for net in all_nets(halls):
                self.assertIs(shows_sparse(2, net), net in rings)
                for friends in (0, 1, 3, 4, 7, 57):
                    self.assertIs(shows_sparse(friends, net), False)

    def test_nets_under_other_names(self):
        for friends in KNOWN:
            self.assertIs(shows_sparse(friends, mixed(sparse_net(friends))), True)
        self.assertIs(shows_sparse(3, rest(couples(5))), True)
        self.assertIs(shows_sparse(2, squares(5)), True)

    def test_stars(self):
        for friends in range(101):
            for halls in (1, 2, 3, 4, 5, 8, 10, 50, 58, 60, friends * friends + 1):
                if halls <= 60:
                    self.assertIs(shows_sparse(friends, star(halls)), False)

    def test_nets_with_as_many_friends_that_are_not_sparse(self):
        for halls in (3, 4, 6, 7, 10, 60):
            self.assertIs(shows_sparse(2, ring(halls)), False)
        for net in (full_net(4), groups(2, 3), (10, tuple(sorted(ring(10)[1] + tuple(
                (hall, hall + 5) for hall in range(5)))))):
            self.assertIs(shows_sparse(3, net), False)
        self.assertIs(shows_sparse(7, full_net(8)), False)
        self.assertIs(shows_sparse(4, board(3)), False)

    def test_any_value(self):
        values = NO_INTEGERS + tuple(value for value, part in NO_NETS)
        for friends in (0, 1, 2, 3, 4, 7, 8, 57, 100):
            for value in values:
                right = friends not in KNOWN and value is None
                self.assertIs(shows_sparse(friends, value), right, (friends, value))

    def test_what_is_nearly_right(self):
        for friends in KNOWN:
            halls, pairs = sparse_net(friends)
            for value in ([halls, pairs], (halls, list(pairs)), (halls, pairs[::-1]),
                          (halls, pairs[1:]), (halls, pairs + pairs[-1:]), (halls + 1, pairs),
                          (halls, tuple(list(pair) for pair in pairs)), (halls, pairs, ()),
                          (halls, tuple((x, y) for y, x in pairs)), (True, pairs)):
                self.assertIs(shows_sparse(friends, value), False)

    def test_no_such_number(self):
        for friends in NO_INTEGERS + (-1, 101, 102, 10 ** 5000):
            for value in (None, RING, sparse_net(3), 0, "", [], (2, ((1, 0),))):
                with self.assertRaises(BadNumber, msg=friends):
                    shows_sparse(friends, value)


if __name__ == "__main__":
    unittest.main()
