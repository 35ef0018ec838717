"""Points 6, 7 and the first words of 8: told nets, their rests, and their shares."""

import unittest
from itertools import combinations
from math import isqrt

from onefriend.errors import BadNet, BadNumber
from onefriend.families import board, couples, groups, squares
from onefriend.girths import sparse_net
from onefriend.nets import rest
from onefriend.toldnets import may_be_told, rest_told, shares, told
from onefriend.windmills import windmill
from tests.samples import (
    MILL, NO_INTEGERS, NO_NETS, PATH, RING, all_nets, are_joined, common_by_words,
    friends_by_words, full_net, renamed, star, turned,
)

HUGE = (10 ** 5000, -10 ** 5000)
FOUR = (shares, may_be_told, rest_told)

# Each family's nets, with the four numbers that are known of them.
FAMILIES = tuple(
    [(board(side), (side * side, 2 * side - 2, side - 2, 2)) for side in range(2, 8)]
    + [(couples(many), (many * (many - 1) // 2, 2 * many - 4, many - 2, 4)) for many in range(4, 12)]
    + [(squares(prime), (prime, (prime - 1) // 2, (prime - 5) // 4, (prime - 1) // 4))
       for prime in (5, 13, 17, 29, 37, 41, 53)]
    + [(groups(parts, size), (parts * size, (parts - 1) * size, (parts - 2) * size, (parts - 1) * size))
       for parts in range(2, 31) for size in range(2, 60 // parts + 1)]
)
OTHER_TOLD = (
    (RING, (5, 2, 0, 1)), (sparse_net(3), (10, 3, 0, 1)), (sparse_net(7), (50, 7, 0, 1)),
    ((4, ((0, 1), (2, 3))), (4, 1, 0, 0)), ((4, ((0, 3), (1, 2))), (4, 1, 0, 0)),
    ((60, tuple((hall, hall + 30) for hall in range(30))), (60, 1, 0, 0)),
    ((6, ((0, 1), (0, 2), (1, 2), (3, 4), (3, 5), (4, 5))), (6, 2, 1, 0)),
)
# Their halls have unlike numbers of friends, or unlike numbers in common, or no two are joined,
# or all are.
NOT_TOLD = (
    (1, ()), (2, ()), (2, ((0, 1),)), (3, ()), (60, ()), full_net(3), full_net(4), full_net(60),
    MILL, windmill(59), PATH, star(3), star(4), star(60), (3, ((0, 1),)), (4, ((0, 1),)),
    (60, ((0, 59),)), (6, ((0, 1), (0, 2), (1, 2), (3, 4))), (5, ((0, 1), (2, 3))),
)


def ring(halls):
    return (halls, tuple(sorted(
        tuple(sorted((hall, (hall + 1) % halls))) for hall in range(halls)
    )))


def told_by_words(net):
    halls = range(net[0])
    degrees = {len(friends_by_words(net, hall)) for hall in halls}
    joined, apart = set(), set()
    for one, other in combinations(halls, 2):
        found = joined if are_joined(net, one, other) else apart
        found.add(len(common_by_words(net, one, other)))
    if len(degrees) == len(joined) == len(apart) == 1:
        return (net[0], *degrees, *joined, *apart)
    return None


def shares_by_words(halls, friends, joined, apart):
    """Every pair that adds up to the other halls is tried."""
    if friends * (friends - joined - 1) != (halls - friends - 1) * apart:
        return None
    weight = 2 * friends + (halls - 1) * (joined - apart)
    square = (joined - apart) * (joined - apart) + 4 * (friends - apart)
    roots = [root for root in range(1, 2 * friends + 2) if root * root == square]
    found = []
    for one in range(halls):
        other = halls - 1 - one
        if weight == 0 and one == other:
            found.append((one, other))
        if weight != 0 and roots and (one - other) * roots[0] == -weight:
            found.append((one, other))
    assert len(found) < 2
    return found[0] if found else None


def all_fours(most):
    """All numbers within the bounds, for up to so many halls."""
    for halls in range(3, most + 1):
        for friends in range(1, halls - 1):
            for joined in range(friends):
                for apart in range(friends + 1):
                    yield halls, friends, joined, apart


class ToldTest(unittest.TestCase):
    def test_families(self):
        for net, four in FAMILIES:
            self.assertEqual(told(net), four)

    def test_other_told_nets(self):
        for net, four in OTHER_TOLD:
            self.assertEqual(told(net), four)

    def test_rings(self):
        for halls in range(3, 61):
            four = {4: (4, 2, 0, 2), 5: (5, 2, 0, 1)}.get(halls)
            self.assertEqual(told(ring(halls)), four)

    def test_other_nets(self):
        for net in NOT_TOLD:
            self.assertIsNone(told(net), net)

    def test_all_pairs_and_none(self):
        for halls in range(1, 61):
            self.assertIsNone(told(full_net(halls)))
            self.assertIsNone(told((halls, ())))

    def test_all_small_nets(self):
        for halls in range(1, 6):
            for net in all_nets(halls):
                self.assertEqual(told(net), told_by_words(net), net)

    def test_same_degree_but_unlike_numbers_in_common(self):
        # Two threes and a ring of six: unlike numbers of joined halls, then of the others.
        three, six = ((0, 1), (0, 2), (1, 2)), ((3, 4), (3, 8), (4, 5), (5, 6), (6, 7), (7, 8))
        self.assertIsNone(told((9, three + six)))
        self.assertIsNone(told(ring(6)))
        self.assertIsNone(told(rest(ring(6))))

    def test_same_numbers_in_common_but_unlike_degrees(self):
        self.assertIsNone(told(MILL))
        self.assertIsNone(told(star(5)))
        self.assertIsNone(told((5, ((0, 1),))))

    def test_bent_nets(self):
        for net in (RING, board(3), board(4), couples(5), squares(13), groups(3, 2)):
            for one, other in combinations(range(net[0]), 2):
                self.assertIsNone(told(turned(net, one, other)))

    def test_names_of_the_halls_do_not_count(self):
        for net, four in ((board(4), (16, 6, 2, 2)), (squares(17), (17, 8, 3, 4))):
            names = [(5 * hall + 3) % net[0] for hall in range(net[0])]
            self.assertEqual(told(renamed(net, names)), four)

    def test_each_told_net_is_within_the_bounds(self):
        for net, four in FAMILIES + OTHER_TOLD:
            rest_told(*told(net))

    def test_no_net(self):
        for value, part in NO_NETS:
            with self.assertRaises(BadNet) as caught:
                told(value)
            self.assertEqual(caught.exception.part, part)


class BoundsTest(unittest.TestCase):
    def assert_no_numbers(self, *four):
        for function in FOUR:
            with self.assertRaises(BadNumber):
                function(*four)

    def test_the_bounds_themselves(self):
        for four in ((3, 1, 0, 0), (3, 1, 0, 1), (1000, 1, 0, 0), (1000, 998, 0, 0), (1000, 998, 997, 0),
                     (1000, 998, 997, 998), (10, 8, 0, 8), (10, 8, 7, 8), (10, 1, 0, 1)):
            for function in FOUR:
                function(*four)

    def test_one_below_and_one_above(self):
        for halls, friends, joined, apart in ((3, 1, 0, 0), (10, 3, 0, 1), (50, 7, 3, 7), (1000, 998, 5, 9)):
            for number in (2, 1, 0, -1, -10, 1001, 1002):
                self.assert_no_numbers(number, friends, joined, apart)
            for number in (0, -1, halls - 1, halls, 1000):
                self.assert_no_numbers(halls, number, joined, apart)
            for number in (-1, friends, friends + 1, 1000):
                self.assert_no_numbers(halls, friends, number, apart)
            for number in (-1, friends + 1, friends + 2, 1000):
                self.assert_no_numbers(halls, friends, joined, number)

    def test_the_bounds_of_each_small_number(self):
        for halls in range(3, 12):
            self.assert_no_numbers(halls, 0, 0, 0)
            self.assert_no_numbers(halls, halls - 1, 0, 0)
            for friends in range(1, halls - 1):
                self.assert_no_numbers(halls, friends, friends, 0)
                self.assert_no_numbers(halls, friends, -1, friends)
                self.assert_no_numbers(halls, friends, 0, friends + 1)
                self.assert_no_numbers(halls, friends, friends - 1, -1)

    def test_no_integers(self):
        for value in NO_INTEGERS + HUGE:
            for place in range(4):
                four = [10, 3, 0, 1]
                four[place] = value
                self.assert_no_numbers(*four)

    def test_several_wrong_numbers(self):
        for value in NO_INTEGERS + HUGE + (-1, 2, 1001):
            self.assert_no_numbers(value, value, value, value)
            self.assert_no_numbers(value, None, "a", [])
            self.assert_no_numbers(10, None, value, value)
            self.assert_no_numbers(10, 9, value, value)
            self.assert_no_numbers(10, 3, None, value)
            self.assert_no_numbers(10, 3, 3, value)


class RestToldTest(unittest.TestCase):
    def test_the_rest_of_told_nets(self):
        for net, four in FAMILIES + OTHER_TOLD:
            self.assertEqual(rest_told(*four), told(rest(net)))

    def test_twice(self):
        for four in all_fours(12):
            other = rest_told(*four)
            if other[2] in range(other[1]) and other[3] in range(other[1] + 1):
                self.assertEqual(rest_told(*other), four)

    def test_each_number(self):
        for halls, friends, joined, apart in all_fours(12):
            self.assertEqual(
                rest_told(halls, friends, joined, apart),
                (halls, halls - 1 - friends, halls - 2 - 2 * friends + apart,
                 halls - 2 * friends + joined),
            )

    def test_numbers_below_nothing(self):
        self.assertEqual(rest_told(10, 8, 0, 0), (10, 1, -8, -6))
        self.assertEqual(rest_told(10, 7, 3, 6), (10, 2, 0, -1))
        self.assertEqual(rest_told(10, 5, 4, 1), (10, 4, -1, 4))
        self.assertEqual(rest_told(1000, 998, 0, 0), (1000, 1, -998, -996))

    def test_it_does_not_ask_for_shares(self):
        self.assertIsNone(shares(17, 4, 0, 1))
        self.assertEqual(rest_told(17, 4, 0, 1), (17, 12, 8, 9))


class SharesTest(unittest.TestCase):
    def assert_shares(self, four, answer):
        self.assertEqual(shares(*four), answer, four)
        self.assertIs(may_be_told(*four), answer is not None, four)

    def test_all_small_numbers(self):
        for four in all_fours(24):
            self.assert_shares(four, shares_by_words(*four))

    def test_numbers_that_keep_the_first_rule(self):
        for halls in range(25, 90):
            for friends in range(1, halls - 1):
                for apart in range(friends + 1):
                    less, left = divmod((halls - friends - 1) * apart, friends)
                    four = (halls, friends, friends - 1 - less, apart)
                    if left == 0 and less < friends:
                        self.assert_shares(four, shares_by_words(*four))

    def test_families_and_other_told_nets(self):
        for net, four in FAMILIES + OTHER_TOLD:
            answer = shares_by_words(*four)
            self.assertIsNotNone(answer)
            self.assert_shares(four, answer)
            self.assert_shares(told(rest(net)), answer[::-1])

    def test_known_ones(self):
        self.assert_shares((10, 3, 0, 1), (5, 4))
        self.assert_shares((50, 7, 0, 1), (28, 21))
        self.assert_shares((16, 6, 2, 2), (6, 9))
        self.assert_shares((4, 2, 0, 2), (2, 1))
        self.assert_shares((4, 1, 0, 0), (1, 2))

    def test_no_weight(self):
        # A square or none: it is not asked for.
        for halls in range(5, 1000, 4):
            friends = (halls - 1) // 2
            four = (halls, friends, (halls - 5) // 4, (halls - 1) // 4)
            self.assertEqual(2 * friends + (halls - 1) * (four[2] - four[3]), 0)
            self.assert_shares(four, (friends, friends))
        self.assert_shares((9, 4, 1, 2), (4, 4))
        self.assert_shares((13, 6, 2, 3), (6, 6))
        self.assert_shares((21, 10, 4, 5), (10, 10))

    def test_the_first_rule_broken(self):
        for four in ((10, 3, 0, 0), (10, 3, 1, 1), (10, 3, 0, 2), (50, 7, 0, 2), (11, 3, 0, 1),
                     (10, 4, 0, 1), (16, 6, 2, 1)):
            self.assert_shares(four, None)
        # No other rule is broken by these; with the last three w is 0.
        for four in ((5, 1, 0, 1), (6, 4, 1, 2), (7, 4, 0, 0), (8, 5, 0, 2), (9, 4, 0, 4),
                     (5, 2, 1, 2), (7, 3, 1, 2), (9, 4, 0, 1)):
            self.assert_shares(four, None)

    def test_no_square(self):
        for four in ((7, 3, 1, 1), (7, 3, 0, 2), (9, 4, 2, 1), (17, 4, 0, 1), (26, 5, 0, 1), (37, 6, 0, 1)):
            halls, friends, joined, apart = four
            self.assertEqual(friends * (friends - joined - 1), (halls - friends - 1) * apart)
            square = (joined - apart) ** 2 + 4 * (friends - apart)
            self.assertNotEqual(isqrt(square) ** 2, square)
            self.assertNotEqual(2 * friends + (halls - 1) * (joined - apart), 0)
            self.assert_shares(four, None)

    def test_shares_that_would_not_be_whole(self):
        # The difference is no integer, then it is one, but it leaves an odd number.
        for four in ((4, 2, 1, 0), (7, 4, 1, 4), (8, 5, 4, 0), (5, 2, 1, 0)):
            self.assert_whole(four, False)
        for four in ((3, 1, 0, 0), (5, 3, 1, 3), (6, 3, 2, 0), (10, 3, 2, 0), (10, 6, 2, 6)):
            self.assert_whole(four, True)

    def assert_whole(self, four, expected):
        halls, friends, joined, apart = four
        self.assertEqual(friends * (friends - joined - 1), (halls - friends - 1) * apart)
        square = (joined - apart) ** 2 + 4 * (friends - apart)
        weight = 2 * friends + (halls - 1) * (joined - apart)
        self.assertEqual(isqrt(square) ** 2, square)
        self.assertEqual(weight % isqrt(square) == 0, expected)
        if expected:
            self.assertEqual((halls - 1 - weight // isqrt(square)) % 2, 1)
        self.assert_shares(four, None)

    def test_no_share_is_below_nothing(self):
        # The least share is 1: numbers whose shares would be below 0 break another rule, too.
        least = []
        for four in all_fours(30):
            found = shares(*four)
            if found is not None:
                self.assertEqual(sum(found), four[0] - 1)
                least.append(min(found))
        self.assertEqual(min(least), 1)

    def test_great_numbers(self):
        self.assert_shares((1000, 998, 996, 998), (500, 499))
        self.assert_shares((1000, 1, 0, 0), (499, 500))
        self.assert_shares((1000, 500, 0, 500), (998, 1))
        self.assert_shares((1000, 998, 997, 998), None)

    def test_kinds_of_the_answers(self):
        for four in ((10, 3, 0, 1), (5, 2, 0, 1)):
            found = shares(*four)
            self.assertEqual([type(found)] + [type(share) for share in found], [tuple, int, int])


if __name__ == "__main__":
    unittest.main()
