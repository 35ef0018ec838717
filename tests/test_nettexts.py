"""Point 10: the text of a net, and the net that a text tells."""

import unittest

from onefriend.errors import BadLine, BadNet, BadText
from onefriend.families import board, couples, groups, squares
from onefriend.girths import sparse_net
from onefriend.nets import is_net
from onefriend.nettexts import read_net, write_net
from onefriend.windmills import windmill
from tests.samples import (
    MILL, NO_INTEGERS, NO_NETS, PATH, RING, all_nets, friends_by_words, full_net, star,
)

TEXTS = (
    ((1, ()), "halls 1"), ((2, ()), "halls 2"), ((60, ()), "halls 60"),
    ((2, ((0, 1),)), "halls 2\n0 with 1"),
    ((3, ((0, 2),)), "halls 3\n0 with 2"),
    ((3, ((1, 2),)), "halls 3\n1 with 2"),
    ((4, ((0, 1), (0, 3), (1, 2))), "halls 4\n0 with 1 3\n1 with 2"),
    (MILL, "halls 5\n0 with 1 2 3 4\n1 with 2\n3 with 4"),
    (RING, "halls 5\n0 with 1 4\n1 with 2\n2 with 3\n3 with 4"),
    (PATH, "halls 4\n0 with 1\n1 with 2\n2 with 3"),
    ((12, ((2, 10), (9, 11))), "halls 12\n2 with 10\n9 with 11"),
    ((60, ((0, 59), (58, 59))), "halls 60\n0 with 59\n58 with 59"),
    (star(60), "halls 60\n0 with " + " ".join(str(hall) for hall in range(1, 60))),
)
LARGE_NETS = (
    star(60), full_net(60), windmill(59), sparse_net(7), board(7), couples(11), squares(59 - 6),
    groups(2, 30), groups(30, 2), (60, ((58, 59),)), (60, tuple((hall, hall + 1) for hall in range(59))),
)

# What is written for an integer where the text of a net has other signs for it, or none.
NO_WORDS_FOR_ONE = (
    "01", "001", "+1", "-1", "1.", "1.0", "1,", "one", "1e0", "0x1", "1_", "_1", "\t1", "1\t", "1\r",
    "\u0661", "\u00b9", "\uff11", "1\u00a0", "(1)", "True", "None", "'1'", "with", "halls", "\x001",
    "1\x0b", "1\x0c", "1\u2028", "1\x85", "1" * 5000, "9" * 5000, "0" * 5000 + "1", "\ud800",
)
NO_STRINGS = tuple(value for value in NO_INTEGERS if not isinstance(value, str)) + (
    0, 1, -1, 10 ** 5000, MILL, ["halls 1"], ("halls 1",), {"halls 1": 1}, [], (1, ()),
)


def text_by_words(net):
    lines = ["halls " + str(net[0])]
    for hall in range(net[0]):
        above = [str(friend) for friend in friends_by_words(net, hall) if friend > hall]
        if above:
            lines.append(" ".join([str(hall), "with", *above]))
    return "\n".join(lines)


class WriteNetTest(unittest.TestCase):
    def test_texts(self):
        for net, text in TEXTS:
            self.assertEqual(write_net(net), text)

    def test_all_small_nets(self):
        for halls in range(1, 6):
            for net in all_nets(halls):
                self.assertEqual(write_net(net), text_by_words(net))

    def test_large_nets(self):
        for net in LARGE_NETS:
            self.assertEqual(write_net(net), text_by_words(net))

    def test_no_net(self):
        for value, part in NO_NETS:
            with self.assertRaises(BadNet) as caught:
                write_net(value)
            self.assertEqual(caught.exception.part, part)


class ReadNetTest(unittest.TestCase):
    def test_texts(self):
        for net, text in TEXTS:
            self.assertEqual(read_net(text), net)

    def test_there_and_back(self):
        for halls in range(1, 6):
            for net in all_nets(halls):
                self.assertEqual(read_net(write_net(net)), net)
        for net in LARGE_NETS:
            self.assertEqual(read_net(write_net(net)), net)
            self.assertIs(is_net(read_net(write_net(net))), True)

    def test_every_number_of_halls(self):
        for halls in range(1, 61):
            self.assertEqual(read_net(f"halls {halls}"), (halls, ()))

    def test_any_number_of_spaces(self):
        for net, text in TEXTS + tuple((net, write_net(net)) for net in LARGE_NETS):
            for spaces in (1, 2, 7):
                gap = " " * spaces
                self.assertEqual(read_net(text.replace(" ", gap)), net)
                self.assertEqual(read_net(gap + text.replace("\n", "\n" + gap)), net)
                self.assertEqual(read_net(text.replace("\n", gap + "\n") + gap), net)
                wide = "\n".join(gap + line.replace(" ", gap) + gap for line in text.split("\n"))
                self.assertEqual(read_net(wide), net)

    def test_void_lines_anywhere(self):
        for net, text in TEXTS:
            for void in ("\n", "\n\n\n", " \n", "\n  \n \n"):
                self.assertEqual(read_net(void + text), net)
                self.assertEqual(read_net(text + "\n" + void), net)
                self.assertEqual(read_net(text.replace("\n", "\n" + void)), net)
                self.assertEqual(read_net(void + text.replace("\n", "\n" + void) + "\n" + void), net)
            self.assertEqual(read_net(text + "\n"), net)
            self.assertEqual(read_net(text + "\n  "), net)

    def test_no_string(self):
        for value in NO_STRINGS:
            with self.assertRaises(BadText):
                read_net(value)


class BadLineTest(unittest.TestCase):
    def assert_wrong(self, text, line, word):
        """The text is wrong there, also with wide gaps, and with void lines at its line breaks."""
        wide = "\n".join("  " + row.replace(" ", "   ") + " " for row in text.split("\n"))
        void = "\n\n" + text.replace("\n", "\n  \n")
        for written, number in ((text, line), (wide, line), (void, 2 * line + 1), (text + "\n", line)):
            with self.assertRaises(BadLine) as caught:
                read_net(written)
            self.assertEqual(vars(caught.exception), {"line": number, "word": word}, repr(written[:99]))

    def assert_no_words(self, text, line):
        with self.assertRaises(BadLine) as caught:
            read_net(text)
        self.assertEqual(vars(caught.exception), {"line": line, "word": 1}, repr(text))

    def test_no_words(self):
        self.assert_no_words("", 2)
        self.assert_no_words(" ", 2)
        self.assert_no_words("     ", 2)
        self.assert_no_words("\n", 3)
        self.assert_no_words(" \n  ", 3)
        self.assert_no_words("\n\n", 4)
        self.assert_no_words("\n" * 99, 101)

    def test_the_first_word_of_all(self):
        for word in ("hall", "Halls", "HALLS", "halls:", "hallsx", "halls3", "3", "with", "0", "\thalls",
                     "\r", "\t", "halls\r", "halls\t3", "\u00a0", "\ufeffhalls", "h"):
            self.assert_wrong(word, 1, 1)
            self.assert_wrong(word + " 3", 1, 1)
            self.assert_wrong(word + " 61 4", 1, 1)
            self.assert_wrong(word + " 3\n0 with 1", 1, 1)
        self.assert_wrong("0 with 1", 1, 1)
        self.assert_wrong("0 with 1\nhalls 3", 1, 1)
        self.assert_wrong("3 halls", 1, 1)

    def test_the_number_of_halls(self):
        self.assert_wrong("halls", 1, 2)
        self.assert_wrong("halls\n3", 1, 2)
        self.assert_wrong("halls\n0 with 1", 1, 2)
        for word in ("0", "61", "62", "600", "00", "06", "060", "-0", "-3", "halls", "with"):
            self.assert_wrong("halls " + word, 1, 2)
            self.assert_wrong("halls " + word + " 3", 1, 2)
            self.assert_wrong("halls " + word + "\n0 with 1", 1, 2)
        for word in NO_WORDS_FOR_ONE:
            self.assert_wrong("halls " + word, 1, 2)

    def test_a_third_word(self):
        for word in ("0", "3", "halls", "with", "x", "\t", "\r"):
            self.assert_wrong("halls 3 " + word, 1, 3)
            self.assert_wrong("halls 3 " + word + " 4 5", 1, 3)
            self.assert_wrong("halls 3 " + word + "\n0 with 3", 1, 3)
        self.assert_wrong("halls 3 0 with 1", 1, 3)

    def test_the_first_word_of_later_lines(self):
        for word in ("3", "4", "60", "-1", "-0", "00", "x", "with", "halls", "\r", "\t"):
            self.assert_wrong("halls 3\n" + word + " with 2", 2, 1)
            self.assert_wrong("halls 3\n" + word, 2, 1)
            self.assert_wrong("halls 3\n0 with 1\n" + word + " with 2", 3, 1)
        for word in NO_WORDS_FOR_ONE:
            self.assert_wrong("halls 3\n" + word + " with 2", 2, 1)
        self.assert_wrong("halls 3\nhalls 3", 2, 1)
        self.assert_wrong("halls 1\n1 with 2", 2, 1)
        self.assert_wrong("halls 60\n60 with 61", 2, 1)

    def test_the_first_word_is_above_that_of_the_line_ahead(self):
        self.assert_wrong("halls 5\n0 with 1\n0 with 2", 3, 1)
        self.assert_wrong("halls 5\n1 with 2\n0 with 3", 3, 1)
        self.assert_wrong("halls 5\n0 with 1\n2 with 3\n1 with 2", 4, 1)
        self.assert_wrong("halls 5\n0 with 1\n2 with 3\n2 with 4", 4, 1)
        self.assert_wrong("halls 5\n3 with 4\n3", 3, 1)
        self.assert_wrong("halls 12\n9 with 10\n2 with 11", 3, 1)
        # The friends of the line ahead are no bound.
        self.assertEqual(read_net("halls 5\n0 with 4\n1 with 2"), (5, ((0, 4), (1, 2))))
        self.assertEqual(read_net("halls 12\n2 with 11\n10 with 11"), (12, ((2, 11), (10, 11))))

    def test_the_second_word(self):
        for word in ("With", "WITH", "wit", "withx", "with1", "1", "2", "halls", "with\t", "with\r", "&"):
            self.assert_wrong("halls 3\n0 " + word, 2, 2)
            self.assert_wrong("halls 3\n0 " + word + " 1", 2, 2)
            self.assert_wrong("halls 3\n0 " + word + " 3", 2, 2)
            self.assert_wrong("halls 3\n0 with 1\n1 " + word + " 2", 3, 2)
        self.assert_wrong("halls 3\n0", 2, 2)
        self.assert_wrong("halls 3\n2", 2, 2)
        self.assert_wrong("halls 3\n0\nwith 1", 2, 2)
        self.assert_wrong("halls 3\n0 with 1\n1", 3, 2)
        self.assert_wrong("halls 1\n0", 2, 2)

    def test_a_friend_lacks(self):
        self.assert_wrong("halls 3\n0 with", 2, 3)
        self.assert_wrong("halls 3\n2 with", 2, 3)
        self.assert_wrong("halls 1\n0 with", 2, 3)
        self.assert_wrong("halls 3\n0 with\n1 with 2", 2, 3)
        self.assert_wrong("halls 3\n0 with\n1", 2, 3)
        self.assert_wrong("halls 3\n0 with 1\n1 with", 3, 3)

    def test_the_first_friend(self):
        for word in ("0", "1", "5", "6", "60", "-2", "02", "with", "x", "\r"):
            self.assert_wrong("halls 5\n1 with " + word, 2, 3)
            self.assert_wrong("halls 5\n1 with " + word + " 4", 2, 3)
            self.assert_wrong("halls 5\n0 with 1 2\n1 with " + word + " 2", 3, 3)
        for word in NO_WORDS_FOR_ONE:
            self.assert_wrong("halls 5\n0 with " + word, 2, 3)
        self.assert_wrong("halls 5\n4 with 5", 2, 3)
        self.assert_wrong("halls 5\n4 with 3", 2, 3)
        self.assert_wrong("halls 1\n0 with 0", 2, 3)
        self.assert_wrong("halls 60\n0 with 60", 2, 3)

    def test_later_friends(self):
        for word in ("0", "1", "2", "3", "6", "60", "04", "with", "x", "\t"):
            self.assert_wrong("halls 6\n1 with 3 " + word, 2, 4)
            self.assert_wrong("halls 6\n1 with 3 " + word + " 5", 2, 4)
            self.assert_wrong("halls 6\n1 with 2 3 " + word, 2, 5)
            self.assert_wrong("halls 6\n0 with 1\n1 with 2 3 " + word + " 4", 3, 5)
        for word in NO_WORDS_FOR_ONE:
            self.assert_wrong("halls 5\n0 with 2 " + word, 2, 4)
        self.assert_wrong("halls 3\n0 with 1 2 3", 2, 5)
        self.assert_wrong("halls 12\n0 with 2 10 9", 2, 5)
        self.assert_wrong(TEXTS[-1][1] + " 60", 2, 62)
        self.assert_wrong(TEXTS[-1][1] + " 59", 2, 62)

    def test_line_by_line(self):
        self.assert_wrong("halls 61\nx", 1, 2)
        self.assert_wrong("halls 3\n0 with 3\n0 with 1", 2, 3)
        self.assert_wrong("halls 3\n0 with 1\n1 with 1\nx", 3, 3)
        self.assert_wrong("halls 3\nx y z", 2, 1)
        self.assert_wrong("halls 3\n0 y z", 2, 2)
        self.assert_wrong("halls 3\n0 with z z", 2, 3)
        self.assert_wrong("halls 3\n0 with 1 z z", 2, 4)

    def test_void_lines_count(self):
        for text, line, word in (("\n\nhall 3", 3, 1), (" \nhalls 0", 2, 2), ("halls 3\n\n\n3 with 1", 4, 1),
                                 ("\nhalls 3\n \n0 with 1\n\n0 with 2\n", 6, 1), ("\n\n0", 3, 1)):
            with self.assertRaises(BadLine) as caught:
                read_net(text)
            self.assertEqual(vars(caught.exception), {"line": line, "word": word})

    def test_only_newlines_part_lines_and_only_spaces_part_words(self):
        self.assert_wrong("halls 3\r\n0 with 1", 1, 2)
        self.assert_wrong("halls 3\x0b0 with 1", 1, 2)
        self.assert_wrong("halls 3\x0c", 1, 2)
        self.assert_wrong("halls 3\u20280 with 1", 1, 2)
        self.assert_wrong("halls\t3", 1, 1)
        self.assert_wrong("halls\u00a03", 1, 1)
        self.assert_wrong("halls 3\n0\twith 1", 2, 1)
        self.assert_wrong("halls 3\n0 with\t1", 2, 2)
        self.assert_wrong("halls 3\n0 with 1\t2", 2, 3)
        self.assert_wrong("halls 3\n\t", 2, 1)


if __name__ == "__main__":
    unittest.main()
