"""Moments at which all voices sing, and what a song that goes round has there.

MEETINGS are tuples (beats, strides, many): beats, each one led to the next, and how far each one goes on from one
such moment to the next, for so many moments.
"""

from leadbeats.counts import has_loop
from leadbeats.rows import least_rising, starts
from leadbeats.wholes import power


def meetings(canon, n, voices):
    """Tell the list of the meetings of so many voices, all beats below n, as their moments rise."""
    told = [meeting_of(canon, progression, voices) for progression in starts(canon, n, voices - 1)]
    if has_loop(canon, n):
        told.append(((canon.loop(),) * voices, (0,) * voices, 1))
    return sorted(told)


def meeting_of(canon, progression, many):
    """Tell the meeting that begins with a progression of beats, all of them led far enough for so many beats."""
    beat, stride, moments = progression
    beats = [beat]
    strides = [stride]
    while len(beats) < many:
        beats.append(canon.led(beats[-1]))
        strides.append(strides[-1] * canon.c // canon.a)
    return (tuple(beats), tuple(strides), moments)


def beats_at(meeting, number):
    """Tell the tuple of the beats at that moment of a meeting that has a number, from 0."""
    beats, strides, moments = meeting
    return tuple([beat + number * stride for beat, stride in zip(beats, strides)])


def by_rests(meetings_told, rests):
    """Tell a list of (beats, how many moments have beats of the same rests by a number), as the first moments rise.

    The rests of a meeting's beats come again after so many moments as there are rests.
    """
    told = []
    for meeting in meetings_told:
        moments = meeting[2]
        for number in range(min(rests, moments)):
            told.append((beats_at(meeting, number), (moments - number + rests - 1) // rests))
    return told


def length_for_all(canon, voices, many):
    """Tell an n with all moments, of so many voices, at which beats fall or stay, and with many of those that rise.

    It is 0 where so many voices never sing together.
    """
    parts = canon.inner()
    if parts is None:
        # Beats that are led are not led on here, and moments of two voices come one behind the other.
        last = many - 1
        return max(canon.a * last + canon.b, canon.c * last + canon.d) + 1 if voices == 2 else 0
    rest, shared, inside = parts
    step = power(inside.a, voices - 1)
    beat = rest + shared * (least_rising(inside, 0, voices - 1) + (many - 1) * step)
    for voice in range(voices - 1):
        beat = canon.led(beat)
    return beat + 1
