"""The error classes of the interface, with their fields."""

import unittest

from onefriend import errors

PLAIN = ("BadHall", "BadNumber", "BadPair", "NotOne", "NoStep", "BadText")


class ErrorsTest(unittest.TestCase):
    def test_base_class_is_a_value_error(self):
        self.assertEqual(errors.FriendError.__bases__, (ValueError,))

    def test_all_others_are_direct_subclasses_of_it(self):
        for name in PLAIN + ("BadNet", "BadLine"):
            with self.subTest(name):
                self.assertEqual(getattr(errors, name).__bases__, (errors.FriendError,))

    def test_all_are_defined_in_their_file(self):
        for name in PLAIN + ("FriendError", "BadNet", "BadLine"):
            with self.subTest(name):
                self.assertEqual(getattr(errors, name).__module__, "onefriend.errors")
                self.assertEqual(getattr(errors, name).__name__, name)

    def test_errors_without_fields(self):
        for name in PLAIN:
            with self.subTest(name):
                error = getattr(errors, name)("why")
                self.assertEqual(vars(error), {})
                self.assertEqual(str(error), "why")
                self.assertIsInstance(getattr(errors, name)(), ValueError)

    def test_bad_net_keeps_its_part(self):
        for part in ("whole", "halls", "pairs"):
            self.assertEqual(vars(errors.BadNet(part)), {"part": part})
            self.assertEqual(errors.BadNet(part=part).part, part)
            self.assertIn(part, str(errors.BadNet(part)))

    def test_bad_line_keeps_its_line_and_word(self):
        self.assertEqual(vars(errors.BadLine(2, 4)), {"line": 2, "word": 4})
        self.assertEqual(vars(errors.BadLine(word=4, line=2)), {"line": 2, "word": 4})
        self.assertEqual(str(errors.BadLine(2, 4)), "line 2, word 4")


if __name__ == "__main__":
    unittest.main()
