"""Point 8: boards, couples, squares and groups."""

import unittest
from itertools import combinations

from onefriend.errors import BadNumber
from onefriend.families import board, couples, groups, squares
from onefriend.nets import counts, is_net, rest
from onefriend.samenumbers import same_degree
from tests.samples import NO_INTEGERS

PRIMES = (5, 13, 17, 29, 37, 41, 53)
HUGE = (10 ** 5000, -10 ** 5000)
GROUPS = [(parts, size) for parts in range(2, 61) for size in range(2, 61) if parts * size <= 60]


def lines_net(halls, lines):
    """The net in which any two halls of a line are joined, and no others."""
    pairs = {pair for line in lines for pair in combinations(sorted(line), 2)}
    return (halls, tuple(sorted(pairs)))


def board_by_lines(side):
    rows = [range(side * row, side * row + side) for row in range(side)]
    columns = [range(column, side * side, side) for column in range(side)]
    return lines_net(side * side, rows + columns)


def couples_by_things(many):
    things = [(x, y) for x in range(many) for y in range(x + 1, many)]
    lines = [[hall for hall, pair in enumerate(things) if thing in pair] for thing in range(many)]
    return lines_net(len(things), lines)


def squares_by_words(prime):
    pairs = []
    for one, other in combinations(range(prime), 2):
        joined = any((number * number - (other - one)) % prime == 0 for number in range(1, prime))
        turned = any((number * number - (one - other)) % prime == 0 for number in range(1, prime))
        assert joined == turned
        if joined:
            pairs.append((one, other))
    return (prime, tuple(pairs))


def groups_by_rest(parts, size):
    lines = [range(part * size, part * size + size) for part in range(parts)]
    return rest(lines_net(parts * size, lines))


class FamilyTest(unittest.TestCase):
    def assert_told(self, net, halls, friends, joined, apart):
        self.assertIs(is_net(net), True)
        self.assertEqual((net[0], same_degree(net)), (halls, friends))
        self.assertEqual(counts(net), ((joined,), (apart,)))

    def assert_no_number(self, function, *arguments):
        with self.assertRaises(BadNumber, msg=arguments):
            function(*arguments)


class BoardTest(FamilyTest):
    def test_each_side(self):
        for side in range(2, 8):
            net = board(side)
            self.assertEqual(net, board_by_lines(side))
            self.assert_told(net, side * side, 2 * (side - 1), side - 2, 2)

    def test_two_by_two(self):
        self.assertEqual(board(2), (4, ((0, 1), (0, 2), (1, 3), (2, 3))))

    def test_no_such_side(self):
        for side in NO_INTEGERS + HUGE + (1, 0, -1, -2, 8, 9, 49, 60):
            self.assert_no_number(board, side)


class CouplesTest(FamilyTest):
    def test_each_number(self):
        for many in range(4, 12):
            net = couples(many)
            self.assertEqual(net, couples_by_things(many))
            self.assert_told(net, many * (many - 1) // 2, 2 * (many - 2), many - 2, 4)

    def test_four_things(self):
        # The halls are 01, 02, 03, 12, 13, 23: none but 0 and 5, 1 and 4, 2 and 3 are apart.
        self.assertEqual(rest(couples(4)), (6, ((0, 5), (1, 4), (2, 3))))

    def test_no_such_number(self):
        for many in NO_INTEGERS + HUGE + (3, 2, 1, 0, -1, -4, 12, 13, 55, 60):
            self.assert_no_number(couples, many)


class SquaresTest(FamilyTest):
    def test_each_prime(self):
        for prime in PRIMES:
            net = squares(prime)
            self.assertEqual(net, squares_by_words(prime))
            self.assert_told(net, prime, (prime - 1) // 2, (prime - 5) // 4, (prime - 1) // 4)

    def test_five(self):
        self.assertEqual(squares(5), (5, ((0, 1), (0, 4), (1, 2), (2, 3), (3, 4))))

    def test_all_other_numbers(self):
        for number in range(-70, 200):
            if number not in PRIMES:
                self.assert_no_number(squares, number)

    def test_no_such_prime(self):
        # Primes that leave 3, numbers that leave 1 and are no primes, and what is outside.
        for number in NO_INTEGERS + HUGE + (
                7, 11, 19, 23, 31, 43, 47, 59, 9, 21, 25, 33, 45, 49, 57, 4, 3, 2, 1, 60, 61, 73):
            self.assert_no_number(squares, number)


class GroupsTest(FamilyTest):
    def test_all_groups(self):
        self.assertEqual(len(GROUPS), sum(60 // parts - 1 for parts in range(2, 31)))
        for parts, size in GROUPS:
            net = groups(parts, size)
            self.assertEqual(net, groups_by_rest(parts, size))
            others = (parts - 1) * size
            self.assert_told(net, parts * size, others, others - size, others)

    def test_two_by_two(self):
        self.assertEqual(groups(2, 2), (4, ((0, 2), (0, 3), (1, 2), (1, 3))))

    def test_edges(self):
        for parts, size in ((2, 2), (2, 30), (30, 2), (3, 20), (20, 3), (7, 8), (8, 7), (29, 2)):
            self.assertEqual(groups(parts, size)[0], parts * size)
        for parts, size in ((2, 31), (3, 21), (7, 9), (8, 8), (20, 4), (29, 3), (30, 3),
                            (31, 2), (31, 1), (60, 1), (1, 2), (1, 60), (2, 1), (30, 1), (2, 0)):
            self.assert_no_number(groups, parts, size)

    def test_all_other_numbers(self):
        for parts in range(-3, 63):
            for size in range(-3, 63):
                if (parts, size) not in GROUPS:
                    self.assert_no_number(groups, parts, size)

    def test_no_such_numbers(self):
        for value in NO_INTEGERS + HUGE:
            self.assert_no_number(groups, value, 2)
            self.assert_no_number(groups, 2, value)
            self.assert_no_number(groups, value, value)
            self.assert_no_number(groups, 0, value)
            self.assert_no_number(groups, 31, value)


if __name__ == "__main__":
    unittest.main()
