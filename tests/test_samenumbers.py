"""Point 4: the same number of common friends, or of friends, and the sizes by the rules."""

import unittest
from itertools import combinations

from onefriend.errors import BadNet, BadNumber
from onefriend.families import board, couples, groups, squares
from onefriend.nets import rest
from onefriend.samenumbers import common_number, same_degree, sizes
from onefriend.windmills import windmill
from tests.samples import (
    MILL, NO_INTEGERS, NO_NETS, PATH, RING, all_nets, common_by_words, friends_by_words, full_net,
    star, turned,
)


def only_one(numbers):
    """The number that all these are, None if they are not all the same or there are none."""
    numbers = list(numbers)
    if not numbers or any(number != numbers[0] for number in numbers):
        return None
    return numbers[0]


def common_number_by_words(net):
    return only_one(
        len(common_by_words(net, one, other)) for one, other in combinations(range(net[0]), 2)
    )


def same_degree_by_words(net):
    return only_one(len(friends_by_words(net, hall)) for hall in range(net[0]))


def steps_net(steps):
    """Halls are the fields of a board of four by four without edges, joined by such steps."""
    pairs = []
    for one, other in combinations(range(16), 2):
        step = ((other // 4 - one // 4) % 4, (other % 4 - one % 4) % 4)
        if step in steps:
            pairs.append((one, other))
    return (16, tuple(pairs))


def bits_net():
    """Halls are the words of five bits with an even number of ones, joined if two bits differ."""
    words = [word for word in range(32) if word.bit_count() % 2 == 0]
    pairs = [
        (one, other) for one, other in combinations(range(16), 2)
        if (words[one] ^ words[other]).bit_count() == 2
    ]
    return (16, tuple(pairs))


SHRIKHANDE = steps_net({(0, 1), (0, 3), (1, 0), (3, 0), (1, 1), (3, 3)})

# Nets in which any two halls have so many friends in common, two or more, with their degrees.
SAME_NETS = (
    (board(4), 2, 6), (SHRIKHANDE, 2, 6), (couples(6), 4, 8), (bits_net(), 6, 10),
    (full_net(4), 2, 3), (full_net(5), 3, 4), (full_net(6), 4, 5), (full_net(59), 57, 58),
    (full_net(60), 58, 59),
)


def sizes_by_words(many, most):
    """The pairs (halls, friends) that keep the rules, with at most so many friends."""
    squares_of = {number * number: number for number in range(1, 2 * many + 2)}
    found = []
    for friends in range(1, most + 1):
        root = squares_of.get(friends - many)
        if root is None or friends % root:
            continue
        others, left = divmod(friends * (friends - 1), many)
        spare = others - friends // root
        if left == 0 and spare >= 0 and spare % 2 == 0:
            found.append((others + 1, friends))
    return tuple(sorted(found))


def sizes_by_halls(many):
    """The same, by going through the numbers of halls and of friends."""
    found = []
    friends = 1
    for halls in range(2, 2 + (many + 1) * (many * many + many - 1)):
        while friends * (friends - 1) < many * (halls - 1):
            friends += 1
        if friends * (friends - 1) != many * (halls - 1):
            continue
        for root in range(1, many + 1):
            if root * root == friends - many and friends % root == 0:
                spare = halls - 1 - friends // root
                if spare in range(0, halls, 2):
                    found.append((halls, friends))
    return tuple(found)


class CommonNumberTest(unittest.TestCase):
    def test_all_small_nets(self):
        for halls in range(1, 6):
            for net in all_nets(halls):
                self.assertEqual(common_number(net), common_number_by_words(net), net)

    def test_one_hall(self):
        self.assertIsNone(common_number((1, ())))

    def test_two_and_three_halls(self):
        self.assertEqual(common_number((2, ())), 0)
        self.assertEqual(common_number((2, ((0, 1),))), 0)
        self.assertEqual(common_number((3, ((0, 1),))), 0)
        self.assertIsNone(common_number((3, ((0, 1), (1, 2)))))
        self.assertEqual(common_number(full_net(3)), 1)

    def test_none_in_common(self):
        for halls in range(2, 61):
            self.assertEqual(common_number((halls, ())), 0)
        partners = (60, tuple((hall, hall + 1) for hall in range(0, 60, 2)))
        self.assertEqual(common_number(partners), 0)
        self.assertEqual(common_number((7, ((2, 5),))), 0)

    def test_one_in_common(self):
        for halls in range(3, 61, 2):
            self.assertEqual(common_number(windmill(halls)), 1)

    def test_two_and_more_in_common(self):
        for net, many, degree in SAME_NETS:
            self.assertEqual(common_number(net), many)
            self.assertEqual(same_degree(net), degree)
            self.assertIn((net[0], degree), sizes(many))

    def test_bent_nets(self):
        for net in (board(4), SHRIKHANDE, couples(6), bits_net(), full_net(6), windmill(9)):
            for one, other in combinations(range(net[0]), 2):
                bent = turned(net, one, other)
                self.assertEqual(common_number(bent), common_number_by_words(bent))
                self.assertIsNone(common_number(bent))

    def test_unlike_numbers(self):
        for net in (RING, PATH, board(3), board(5), couples(5), couples(7), squares(13),
                    groups(2, 2), groups(3, 20), star(4), star(60), rest(board(4))):
            self.assertIsNone(common_number(net), net)

    def test_no_net(self):
        for value, part in NO_NETS:
            with self.assertRaises(BadNet, msg=value) as caught:
                common_number(value)
            self.assertEqual(caught.exception.part, part)


class SameDegreeTest(unittest.TestCase):
    def test_all_small_nets(self):
        for halls in range(1, 6):
            for net in all_nets(halls):
                self.assertEqual(same_degree(net), same_degree_by_words(net), net)

    def test_one_hall(self):
        self.assertEqual(same_degree((1, ())), 0)

    def test_sixty_halls(self):
        self.assertEqual(same_degree((60, ())), 0)
        self.assertEqual(same_degree(full_net(60)), 59)
        self.assertIsNone(same_degree(star(60)))
        self.assertIsNone(same_degree((60, ((58, 59),))))
        self.assertEqual(same_degree((60, tuple((hall, hall + 30) for hall in range(30)))), 1)

    def test_other_nets(self):
        self.assertEqual(same_degree(RING), 2)
        self.assertEqual(same_degree(rest(RING)), 2)
        self.assertIsNone(same_degree(PATH))
        self.assertIsNone(same_degree(MILL))
        self.assertEqual(same_degree((4, ((0, 1), (2, 3)))), 1)
        self.assertIsNone(same_degree((3, ((0, 1),))))
        # The degrees are the same but for the last hall, or the first.
        self.assertIsNone(same_degree((5, ((0, 1), (0, 2), (0, 3), (1, 2), (1, 3), (2, 3)))))
        self.assertIsNone(same_degree((5, ((1, 2), (1, 3), (1, 4), (2, 3), (2, 4), (3, 4)))))

    def test_no_net(self):
        for value, part in NO_NETS:
            with self.assertRaises(BadNet, msg=value) as caught:
                same_degree(value)
            self.assertEqual(caught.exception.part, part)


class SizesTest(unittest.TestCase):
    def test_known_ones(self):
        self.assertEqual(sizes(2), ((4, 3), (16, 6)))
        self.assertEqual(sizes(3), ((5, 4), (45, 12)))
        self.assertEqual(sizes(4), ((6, 5), (15, 8), (96, 20)))
        self.assertEqual(sizes(6), ((8, 7), (16, 10), (36, 15), (288, 42)))

    def test_a_size_that_only_evenness_bars(self):
        # With root 4 there would be 24 friends and 70 halls, and 69 - 6 is odd.
        self.assertNotIn((70, 24), sizes(8))
        self.assertIn((10, 9), sizes(8))

    def test_small_numbers(self):
        for many in range(2, 100):
            self.assertEqual(sizes(many), sizes_by_words(many, 2 * many * (many + 1)), many)

    def test_small_numbers_by_halls(self):
        for many in range(2, 31):
            self.assertEqual(sizes(many), sizes_by_halls(many), many)

    def test_great_numbers(self):
        for many in (512, 840, 961, 997, 999, 1000):
            self.assertEqual(sizes(many), sizes_by_words(many, many * (many + 1)), many)
        self.assertEqual(
            sizes(1000), ((1002, 1001), (2640, 1625), (1680960, 41000), (1002000000, 1001000))
        )

    def test_each_number_is_allowed(self):
        for many in range(2, 1001):
            found = sizes(many)
            self.assertIs(type(found), tuple)
            self.assertEqual(found[0], (many + 2, many + 1))
            self.assertEqual(list(found), sorted(set(found)))
            for pair in found:
                self.assertEqual([type(pair)] + [type(number) for number in pair], [tuple, int, int])

    def test_no_such_number(self):
        for many in NO_INTEGERS + (1, 0, -1, -2, -1000, 1001, 1002, 10 ** 5000, -10 ** 5000):
            with self.assertRaises(BadNumber, msg=many):
                sizes(many)


if __name__ == "__main__":
    unittest.main()
