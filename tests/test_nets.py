"""Point 2: nets, friends, common friends, their numbers, and the rest."""

import unittest
from itertools import combinations

from onefriend.errors import BadHall, BadNet
from onefriend.nets import common, counts, friends, is_net, rest
from tests.samples import (
    MILL, NO_INTEGERS, NO_NETS, PATH, RING, all_nets, are_joined, common_by_words,
    friends_by_words, full_net, star,
)

NETS = (
    (1, ()), (2, ()), (2, ((0, 1),)), (3, ((1, 2),)), (4, ((0, 3), (1, 2))), MILL, RING, PATH,
    star(1), star(7), full_net(3), full_net(6), (60, ()), (60, ((58, 59),)), (60, ((0, 59),)),
    star(60), full_net(60),
)


def no_halls(halls):
    """Values that are no hall of a net of so many halls."""
    return NO_INTEGERS + (-1, halls, halls + 1, 60, 61, 10 ** 5000, -10 ** 5000)


def counts_by_words(net):
    joined, apart = set(), set()
    for one, other in combinations(range(net[0]), 2):
        found = joined if are_joined(net, one, other) else apart
        found.add(len(common_by_words(net, one, other)))
    return (tuple(sorted(joined)), tuple(sorted(apart)))


def rest_by_words(net):
    pairs = combinations(range(net[0]), 2)
    return (net[0], tuple(pair for pair in pairs if not are_joined(net, *pair)))


class IsNetTest(unittest.TestCase):
    def test_nets(self):
        for net in NETS:
            with self.subTest(net=net):
                self.assertIs(is_net(net), True)

    def test_every_number_of_halls(self):
        for halls in range(1, 61):
            for net in ((halls, ()), star(halls), full_net(halls)):
                self.assertIs(is_net(net), True)

    def test_every_net_of_four_halls(self):
        for net in all_nets(4):
            self.assertIs(is_net(net), True)

    def test_values_that_are_no_nets(self):
        for place, (value, part) in enumerate(NO_NETS):
            # By its place in the list: some values are too long to be written.
            with self.subTest(place=place, part=part):
                self.assertIs(is_net(value), False)

    def test_any_order_of_the_pairs_but_the_ascending_one(self):
        one, two, three = (0, 2), (0, 3), (1, 2)
        self.assertIs(is_net((4, (one, two, three))), True)
        for pairs in ((one, three, two), (two, one, three), (two, three, one),
                      (three, one, two), (three, two, one)):
            self.assertIs(is_net((4, pairs)), False)

    def test_only_pairs_of_lesser_and_greater_halls_are_joined(self):
        for halls in range(1, 6):
            for one in range(-2, halls + 2):
                for other in range(-2, halls + 2):
                    self.assertIs(is_net((halls, ((one, other),))), 0 <= one < other < halls)


class BadNetTest(unittest.TestCase):
    def test_every_function_names_the_part(self):
        calls = (
            lambda value: friends(value, 0), lambda value: common(value, 0, 1),
            lambda value: common(value, 0, 0), counts, rest,
        )
        for value, part in NO_NETS:
            for call in calls:
                with self.assertRaises(BadNet) as caught:
                    call(value)
                self.assertEqual(caught.exception.part, part)

    def test_it_comes_before_bad_hall(self):
        for value, part in NO_NETS:
            for hall in NO_INTEGERS + (-1, 61):
                for call in (lambda: friends(value, hall), lambda: common(value, hall, 0),
                             lambda: common(value, 0, hall), lambda: common(value, hall, hall)):
                    with self.assertRaises(BadNet) as caught:
                        call()
                    self.assertEqual(caught.exception.part, part)


class FriendsTest(unittest.TestCase):
    def test_ordinary_nets(self):
        self.assertEqual([friends(MILL, hall) for hall in range(5)],
                         [(1, 2, 3, 4), (0, 2), (0, 1), (0, 4), (0, 3)])
        self.assertEqual([friends(RING, hall) for hall in range(5)],
                         [(1, 4), (0, 2), (1, 3), (2, 4), (0, 3)])
        self.assertEqual([friends(PATH, hall) for hall in range(4)], [(1,), (0, 2), (1, 3), (2,)])

    def test_every_hall_by_the_words(self):
        for net in NETS:
            for hall in range(net[0]):
                self.assertEqual(friends(net, hall), friends_by_words(net, hall))

    def test_every_net_of_four_halls(self):
        for net in all_nets(4):
            for hall in range(4):
                self.assertEqual(friends(net, hall), friends_by_words(net, hall))

    def test_no_friends(self):
        self.assertEqual(friends((1, ()), 0), ())
        self.assertEqual(friends((60, ()), 59), ())

    def test_sixty_halls(self):
        self.assertEqual(friends(full_net(60), 30), tuple(range(30)) + tuple(range(31, 60)))
        self.assertEqual(friends(full_net(60), 59), tuple(range(59)))

    def test_values_that_are_no_halls(self):
        for net in NETS:
            for hall in no_halls(net[0]):
                if hall in range(net[0]) and not isinstance(hall, bool):
                    continue
                with self.assertRaises(BadHall):
                    friends(net, hall)


class CommonTest(unittest.TestCase):
    def test_ordinary_nets(self):
        self.assertEqual(common(MILL, 1, 3), (0,))
        self.assertEqual(common(MILL, 0, 1), (2,))
        self.assertEqual(common(RING, 0, 2), (1,))
        self.assertEqual(common(RING, 0, 1), ())
        self.assertEqual(common(full_net(6), 4, 1), (0, 2, 3, 5))

    def test_every_two_halls_by_the_words(self):
        for net in NETS:
            if net[0] == 60:
                continue
            for one in range(net[0]):
                for other in range(net[0]):
                    self.assertEqual(common(net, one, other), common_by_words(net, one, other))

    def test_every_net_of_four_halls(self):
        for net in all_nets(4):
            for one in range(4):
                for other in range(4):
                    self.assertEqual(common(net, one, other), common_by_words(net, one, other))

    def test_a_hall_with_itself(self):
        for net in NETS:
            for hall in (0, net[0] // 2, net[0] - 1):
                self.assertEqual(common(net, hall, hall), friends_by_words(net, hall))

    def test_sixty_halls(self):
        self.assertEqual(common(full_net(60), 0, 59), tuple(range(1, 59)))
        self.assertEqual(common(star(60), 58, 59), (0,))
        self.assertEqual(common(star(60), 0, 59), ())

    def test_values_that_are_no_halls(self):
        for net in NETS:
            for hall in no_halls(net[0]):
                if hall in range(net[0]) and not isinstance(hall, bool):
                    continue
                for one, other in ((hall, 0), (0, hall), (hall, hall)):
                    with self.assertRaises(BadHall):
                        common(net, one, other)


class CountsTest(unittest.TestCase):
    def test_ordinary_nets(self):
        self.assertEqual(counts(MILL), ((1,), (1,)))
        self.assertEqual(counts(RING), ((0,), (1,)))
        self.assertEqual(counts(PATH), ((0,), (0, 1)))
        self.assertEqual(counts(star(5)), ((0,), (1,)))

    def test_only_joined_or_only_unjoined_halls(self):
        self.assertEqual(counts((1, ())), ((), ()))
        self.assertEqual(counts((2, ())), ((), (0,)))
        self.assertEqual(counts((2, ((0, 1),))), ((0,), ()))
        self.assertEqual(counts(full_net(5)), ((3,), ()))
        self.assertEqual(counts((5, ())), ((), (0,)))

    def test_several_numbers_ascend(self):
        # A full net of five, one more hall hung on it by three pairs, and one by one pair.
        net = (7, tuple(sorted(full_net(5)[1] + ((0, 5), (1, 5), (2, 5), (4, 6)))))
        self.assertEqual(counts(net), ((0, 2, 3, 4), (0, 1, 3)))

    def test_every_net_of_up_to_five_halls(self):
        for halls in range(1, 6):
            for net in all_nets(halls):
                self.assertEqual(counts(net), counts_by_words(net))

    def test_sixty_halls(self):
        self.assertEqual(counts((60, ())), ((), (0,)))
        self.assertEqual(counts(full_net(60)), ((58,), ()))
        self.assertEqual(counts(star(60)), ((0,), (1,)))
        self.assertEqual(counts((60, ((58, 59),))), ((0,), (0,)))


class RestTest(unittest.TestCase):
    def test_ordinary_nets(self):
        self.assertEqual(rest((3, ((0, 1),))), (3, ((0, 2), (1, 2))))
        self.assertEqual(rest(MILL), (5, ((1, 3), (1, 4), (2, 3), (2, 4))))
        self.assertEqual(rest(RING), (5, ((0, 2), (0, 3), (1, 3), (1, 4), (2, 4))))

    def test_all_pairs_and_none(self):
        for halls in (1, 2, 3, 17, 60):
            self.assertEqual(rest((halls, ())), full_net(halls))
            self.assertEqual(rest(full_net(halls)), (halls, ()))

    def test_every_net_of_up_to_five_halls(self):
        for halls in range(1, 6):
            for net in all_nets(halls):
                self.assertEqual(rest(net), rest_by_words(net))
                self.assertIs(is_net(rest(net)), True)

    def test_the_rest_of_a_rest(self):
        for net in NETS:
            self.assertEqual(rest(rest(net)), net)


if __name__ == "__main__":
    unittest.main()
