"""The errors of the package."""


class FriendError(ValueError):
    """The base class of all errors of the package."""


class BadNet(FriendError):
    """A value that is no net; part is "whole", "halls" or "pairs"."""

    def __init__(self, part):
        self.part = part

    def __str__(self):
        return f"no net, for its {self.part}"


class BadHall(FriendError):
    """A value that is no hall of the net."""


class BadNumber(FriendError):
    """A value that is not one of the allowed integers."""


class BadPair(FriendError):
    """Two values that are not two unlike halls of the net."""


class NotOne(FriendError):
    """A net in which some two unlike halls don't have just one friend in common."""


class NoStep(FriendError):
    """No step is left that could be taken back."""


class BadText(FriendError):
    """A value that is no string."""


class BadLine(FriendError):
    """A text that tells no net; line and word, counted from 1, are where it fails."""

    def __init__(self, line, word):
        self.line = line
        self.word = word

    def __str__(self):
        return f"line {self.line}, word {self.word}"
