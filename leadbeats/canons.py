"""Canons: two voices at unlike paces, the one's beats led to the other one's."""

from leadbeats.errors import BadCanon, BadVoices, NoBeat
from leadbeats.wholes import fraction, greatest_divisor, is_from

MOST_VOICES = 6


class Canon:
    """At moment t the one voice sings beat a t + b, which is led to the other one's beat c t + d."""

    def __init__(self, a, b, c, d):
        if not is_from(a, 1):
            raise BadCanon("a")
        if not is_from(b, 0):
            raise BadCanon("b")
        if not is_from(c, a + 1):
            raise BadCanon("c")
        if not is_from(d, 0):
            raise BadCanon("d")
        self.a = a
        self.b = b
        self.c = c
        self.d = d

    def __eq__(self, other):
        return (isinstance(other, Canon) and self.a == other.a and self.b == other.b
                and self.c == other.c and self.d == other.d)

    def numbers(self):
        """Tell the tuple (a, b, c, d)."""
        return (self.a, self.b, self.c, self.d)

    def led(self, beat):
        """Tell to which beat a beat is led, None where to none."""
        when = moment_of(self.a, self.b, beat)
        return None if when is None else self.c * when + self.d

    def ahead(self, beat):
        """Tell which beat is led to a beat, None where none is."""
        when = moment_of(self.c, self.d, beat)
        return None if when is None else self.a * when + self.b

    def moment(self, beat):
        """Tell at which moment the one voice sings a beat, None where it never does."""
        return moment_of(self.a, self.b, beat)

    def turning(self):
        """Tell the turning point, from which leading goes away on both sides, as a fraction."""
        return fraction(self.b * self.c - self.a * self.d, self.c - self.a)

    def loop(self):
        """Tell the beat that is led to itself, None where there is none."""
        when, rest = divmod(self.b - self.d, self.c - self.a)
        return self.a * when + self.b if rest == 0 and when >= 0 else None

    def inner(self):
        """Tell (rest, g, canon) of the canon among the beats of one rest by the paces' divisor g, None where none."""
        shared = greatest_divisor(self.a, self.c)
        rest = self.b % shared
        if self.d % shared != rest:
            return None
        return (rest, shared, Canon(self.a // shared, self.b // shared, self.c // shared, self.d // shared))


def moment_of(pace, entry, beat):
    """Tell at which moment a voice sings a beat, None where it never does."""
    if not is_from(beat, 0):
        raise NoBeat(beat)
    when, rest = divmod(beat - entry, pace)
    return when if rest == 0 and when >= 0 else None


def canon_of(voices):
    """Tell the canon that leads each voice's beats to the next voice's ones, None where there is none."""
    check_voices(voices)
    (slow, low), (fast, high) = voices[0], voices[1]
    if fast <= slow:
        return None
    a, c = fraction(slow, fast)
    for (pace, entry), (next_pace, next_entry) in zip(voices[1:], voices[2:]):
        # All steps have to be the same map: as steep, and through the same points.
        if a * next_pace != c * pace or a * next_entry - c * entry != a * high - c * low:
            return None
    # Both entries go back by whole moments until one of them would fall below 0.
    back = min(low // a, high // c)
    return Canon(a, low - a * back, c, high - c * back)


def check_voices(voices):
    """Refuse what is no list of two to six voices."""
    if not isinstance(voices, list) or not 2 <= len(voices) <= MOST_VOICES:
        raise BadVoices(-1)
    for at, voice in enumerate(voices):
        if not is_voice(voice):
            raise BadVoices(at)


def is_voice(thing):
    """Tell of anything whether it is a tuple of a pace from 1 on and an entry from 0 on."""
    return isinstance(thing, tuple) and len(thing) == 2 and is_from(thing[0], 1) and is_from(thing[1], 0)
