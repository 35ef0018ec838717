"""Nets as texts: a line with the number of halls, then a line for each hall with friends above it."""

from onefriend.checks import MOST_HALLS, check_net
from onefriend.errors import BadLine, BadText
from onefriend.nets import friend_rows


def write_net(net):
    """The text of a net."""
    check_net(net)
    lines = [f"halls {net[0]}"]
    for hall, row in enumerate(friend_rows(net)):
        above = [str(friend) for friend in row if friend > hall]
        if len(above) > 0:
            lines.append(" ".join([str(hall), "with"] + above))
    return "\n".join(lines)


def words_of(line):
    """The words of a line. Nothing but spaces parts them, so tabs and the like belong to words."""
    return [word for word in line.split(" ") if word != ""]


def word_at(line, words, place, allowed):
    """The word at a place of a line, both counted from 1; BadLine if it lacks or isn't allowed."""
    if place > len(words) or words[place - 1] not in allowed:
        raise BadLine(line, place)
    return words[place - 1]


def number_at(line, words, place, least, most):
    """The integer from least to most that the word at a place of a line is; BadLine without one."""
    # Compared as they are written, so no other way to write an integer is let in.
    allowed = [str(number) for number in range(least, most + 1)]
    return int(word_at(line, words, place, allowed))


def read_halls(line, words):
    """The number of halls, from the first line that has words."""
    word_at(line, words, 1, ["halls"])
    halls = number_at(line, words, 2, 1, MOST_HALLS)
    if len(words) > 2:
        raise BadLine(line, 3)
    return halls


def read_pairs(line, words, least, halls):
    """The pairs that a later line tells, whose hall must be least or above."""
    hall = number_at(line, words, 1, least, halls - 1)
    word_at(line, words, 2, ["with"])
    pairs = []
    friend = hall
    # A third word is asked for even of a line without one: the first friend must not lack.
    for place in range(3, max(3, len(words)) + 1):
        friend = number_at(line, words, place, friend + 1, halls - 1)
        pairs.append((hall, friend))
    return pairs


def read_net(text):
    """The net that a text tells."""
    if not isinstance(text, str):
        raise BadText("no string")
    lines = [words_of(line) for line in text.split("\n")]
    rows = [(number, words) for number, words in enumerate(lines, start=1) if len(words) > 0]
    if len(rows) == 0:
        raise BadLine(len(lines) + 1, 1)
    number, words = rows[0]
    halls = read_halls(number, words)
    pairs = []
    least = 0
    for number, words in rows[1:]:
        pairs.extend(read_pairs(number, words, least, halls))
        least = pairs[-1][0] + 1
    return (halls, tuple(pairs))
