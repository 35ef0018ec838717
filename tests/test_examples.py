"""The examples of the interface."""

import unittest

from onefriend.errors import BadNet, NotOne
from onefriend.nets import common, counts, friends, rest
from onefriend.windmills import (
    blades, count_windmills, hubs, is_one_friend, shows_windmill, windmill,
)

MILL = (5, ((0, 1), (0, 2), (0, 3), (0, 4), (1, 2), (3, 4)))


class ExamplesTest(unittest.TestCase):
    def test_nets(self):
        found = [friends(MILL, 1), common(MILL, 1, 3), counts(MILL), rest((3, ((0, 1),)))]
        self.assertEqual(found, [(0, 2), (0,), ((1,), (1,)), (3, ((0, 2), (1, 2)))])

    def test_nets_error(self):
        with self.assertRaises(BadNet) as caught:
            friends((2, ((1, 0),)), 0)
        self.assertEqual(caught.exception.part, "pairs")

    def test_windmills(self):
        found = [is_one_friend(MILL), hubs(MILL), blades(MILL), count_windmills(7), windmill(6),
                 shows_windmill(9, windmill(9))]
        self.assertEqual(found, [True, (0,), ((1, 2), (3, 4)), 105, None, True])

    def test_windmills_error(self):
        with self.assertRaises(NotOne):
            blades((2, ((0, 1),)))


if __name__ == "__main__":
    unittest.main()
