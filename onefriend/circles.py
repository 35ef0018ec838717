"""A circle of halls in which two at a time are joined or parted."""

from onefriend.checks import MOST_HALLS, check_number, is_pair
from onefriend.errors import BadPair, NoStep
from onefriend.nets import counts
from onefriend.toldnets import told
from onefriend.windmills import is_one_friend


def lesser_first(halls, one, other):
    """The pair of two unlike halls, the lesser one first, None for any other two values."""
    for pair in ((one, other), (other, one)):
        if is_pair(halls, pair):
            return pair
    return None


class Circle:
    """A net of so many halls that has no pairs at first."""

    def __init__(self, halls):
        check_number(halls, 1, MOST_HALLS)
        self._halls = halls
        self._joined = {}
        self._steps = []

    @property
    def net(self):
        """The net as it is now."""
        return (self._halls, tuple(sorted(self._joined)))

    @property
    def done(self):
        """The pairs turned over and not taken back, in order."""
        return tuple(self._steps)

    def turn_over(self, one, other):
        """Join two halls that aren't joined, part two that are."""
        pair = lesser_first(self._halls, one, other)
        if pair is None:
            raise BadPair(f"no two unlike halls from 0 to {self._halls - 1}")
        self._turn(pair)
        self._steps.append(pair)

    def undo(self):
        """Take the last turning over back."""
        if len(self._steps) == 0:
            raise NoStep("no pair is left to take back")
        # Turning a pair over once more is what takes it back.
        self._turn(self._steps.pop())

    def _turn(self, pair):
        if pair in self._joined:
            del self._joined[pair]
        else:
            self._joined[pair] = True

    def is_one_friend(self):
        """Whether any two unlike halls have just one friend in common."""
        return is_one_friend(self.net)

    def counts(self):
        """The numbers of common friends: of joined halls, and of unlike halls that aren't joined."""
        return counts(self.net)

    def told(self):
        """The four numbers by which the net is told, None if it isn't."""
        return told(self.net)
