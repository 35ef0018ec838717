"""Told nets: any two joined halls have the same number of common friends, any two others, too."""

from itertools import combinations

from onefriend.checks import MOST_HALLS, check_number, is_number
from onefriend.errors import BadNumber


def board(side):
    """The fields of a square, row by row, joined if in one row or one column."""
    check_number(side, 2, 7)
    halls = side * side
    pairs = [
        (one, other) for one, other in combinations(range(halls), 2)
        if one // side == other // side or one % side == other % side
    ]
    return (halls, tuple(pairs))


def couples(many):
    """The pairs of so many things, ascending, joined if they have a thing in common."""
    check_number(many, 4, 11)
    things = list(combinations(range(many), 2))
    pairs = [
        (one, other) for one, other in combinations(range(len(things)), 2)
        if things[one][0] in things[other] or things[one][1] in things[other]
    ]
    return (len(things), tuple(pairs))


def is_prime(number):
    """Whether an integer above 1 is a prime."""
    return all([number % divisor != 0 for divisor in range(2, number)])


def squares(prime):
    """So many halls, joined if their difference leaves by the prime what some square leaves."""
    if not is_number(prime, 5, 59) or prime % 4 != 1 or not is_prime(prime):
        raise BadNumber("no prime from 5 to 59 that leaves 1 by four")
    remainders = {number * number % prime for number in range(1, prime)}
    # By such a prime a difference leaves a square's remainder just if its negative does.
    pairs = [
        (one, other) for one, other in combinations(range(prime), 2)
        if other - one in remainders
    ]
    return (prime, tuple(pairs))


def groups(parts, size):
    """So many groups of so many halls, group by group, joined if in unlike groups."""
    check_number(parts, 2, MOST_HALLS // 2)
    check_number(size, 2, MOST_HALLS // parts)
    halls = parts * size
    pairs = [
        (one, other) for one, other in combinations(range(halls), 2)
        if one // size != other // size
    ]
    return (halls, tuple(pairs))
