"""The refusals of the program.

None of them words a message: Python keeps what an error is made of, so its message shows the fields.
"""


class CanonError(ArithmeticError):
    """Any refusal."""


class BadCanon(CanonError):
    """What are no four numbers of a canon; part is the first of "a", "b", "c", "d" that is amiss."""

    def __init__(self, part):
        self.part = part


class NoBeat(CanonError):
    """What is no beat."""

    def __init__(self, beat):
        self.beat = beat


class BadVoices(CanonError):
    """What are no voices; at is the first place amiss, -1 for no list of so many."""

    def __init__(self, at):
        self.at = at


class NoLength(CanonError):
    """What is no length of a tune, a row or a word."""

    def __init__(self, length):
        self.length = length


class NoRow(CanonError):
    """What is no number of a row."""

    def __init__(self, at):
        self.at = at


class BadTable(CanonError):
    """What makes no table; part is the first that is amiss, at its first place amiss, where it has places."""

    def __init__(self, part, at):
        self.part = part
        self.at = at


class BadKnown(CanonError):
    """What are no known notes; at is the first place amiss, -1 for no list or tuple."""

    def __init__(self, at):
        self.at = at


class NoWord(CanonError):
    """What is no word; at is the place amiss, -1 for no list of so many."""

    def __init__(self, at):
        self.at = at


class NoPlace(CanonError):
    """What is no place in a word."""

    def __init__(self, place):
        self.place = place


class NoNumber(CanonError):
    """What is no number of the things that are numbered."""

    def __init__(self, number):
        self.number = number


class Unlike(CanonError):
    """Tables that do not go together; part is "notes" or "voices"."""

    def __init__(self, part):
        self.part = part


class BadTune(CanonError):
    """What is no tune, song or round; at is the first place amiss, -1 for no list of so many."""

    def __init__(self, at):
        self.at = at


class BadHeard(CanonError):
    """What are no heard notes; at is the first place amiss, -1 for no list or tuple."""

    def __init__(self, at):
        self.at = at


class BadPrices(CanonError):
    """What are no prices; at is the first place amiss, -1 for no list of so many."""

    def __init__(self, at):
        self.at = at


class TooMany(CanonError):
    """More than are told; many is the bound."""

    def __init__(self, many):
        self.many = many
