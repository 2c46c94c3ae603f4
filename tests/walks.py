"""What the tests compare with: leading walked from beat to beat, and what they hand in."""

import contextlib
import signal
from fractions import Fraction

# Whatever is no whole number from 0 on.
NO_WHOLES = (True, False, -1, "1", "", None, (), (1,), [], [1], {}, {1: 2}, b"1", object())

GREAT = 10 ** 29


@contextlib.contextmanager
def within(seconds):
    """Fail where the rows inside take longer, also where they would never end."""
    def late(*told):
        raise AssertionError("not told at once")
    before = signal.signal(signal.SIGALRM, late)
    signal.setitimer(signal.ITIMER_REAL, seconds)
    try:
        yield
    finally:
        signal.setitimer(signal.ITIMER_REAL, 0)
        signal.signal(signal.SIGALRM, before)


def leads(numbers, bound):
    """All leading from a beat below a bound, moment by moment, as a dict."""
    a, b, c, d = numbers
    told = {}
    moment = 0
    while a * moment + b < bound:
        told[a * moment + b] = c * moment + d
        moment += 1
    return told


def walk(numbers, n):
    """All rows of the tune of n beats, rising by their first beats, and its loop or None."""
    onward = {one: other for one, other in leads(numbers, n).items() if other < n}
    loops = [one for one, other in onward.items() if one == other]
    for beat in loops:
        del onward[beat]
    reached = set(onward.values())
    told = []
    for beat in range(n):
        if beat not in reached and beat not in loops:
            told.append([beat])
            while told[-1][-1] in onward:
                told[-1].append(onward[told[-1][-1]])
    return told, loops[0] if loops else None


def great_row(numbers, n, beat):
    """The row of a beat that is no loop, walked both ways with plain numbers."""
    a, b, c, d = numbers
    told = [beat]
    while (told[0] - d) % c == 0 and told[0] >= d and (told[0] - d) // c * a + b < n:
        told.insert(0, (told[0] - d) // c * a + b)
    while (told[-1] - b) % a == 0 and told[-1] >= b and (told[-1] - b) // a * c + d < n:
        told.append((told[-1] - b) // a * c + d)
    return told


def turning(numbers):
    """The turning point."""
    a, b, c, d = numbers
    return Fraction(b * c - a * d, c - a)


def small_numbers():
    """The four numbers of small canons: rising and falling rows, loops, common divisors of like and unlike rests."""
    return [(a, b, c, d) for a in range(1, 7) for c in range(a + 1, 9)
            for b in (0, 1, 2, 5, 11, 16) for d in (0, 1, 3, 4, 9)]


def great_numbers():
    """The four numbers of canons of up to thirty figures."""
    return [
        (1, 0, 2, 0), (1, 5, 2, 0), (1, 0, 2, 5), (1, 9 * GREAT + 1, 2, 0), (1, GREAT, 3, 7),
        (2, 3, 3, 8), (2, 7 * GREAT + 3, 3, 5), (2, 5, 3, 4 * GREAT), (3, GREAT + 1, 5, GREAT),
        (4, 6, 6, 2), (4, 6, 6, 3), (4, 8 * GREAT + 6, 6, 2), (4, 8 * GREAT + 6, 6, 3), (12, GREAT, 30, 4),
        (7, 3 * GREAT, 8, 0), (10 ** 9 + 7, 5, 10 ** 9 + 9, 8), (10 ** 9 + 7, 6 * GREAT, 10 ** 9 + 9, 8),
        (10 ** 12, 6, 10 ** 12 + 8, 14), (GREAT, 2, GREAT + 1, 3), (GREAT, 9 * GREAT, GREAT + 1, 8 * GREAT),
        (GREAT + 7, 3 * GREAT + 5, 9 * GREAT + 1, 8), (6 * GREAT, 5 * GREAT + 1, 9 * GREAT, 2 * GREAT + 1),
        (6 * GREAT, 5 * GREAT + 1, 9 * GREAT, 2 * GREAT), (1, 9 * GREAT + 3, 9 * GREAT, 9 * GREAT),
        (9 * GREAT + 1, 9 * GREAT + 5, 9 * GREAT + 2, 0), (1, 0, 9 * GREAT, 0), (5, 10, 10, 5), (1, 8, 3, 2),
    ]
