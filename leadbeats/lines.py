"""Lines: the rows of a tune, and its loop, as their beats rise.

A line is a tuple (kind, beats) of a rising list of beats. Tunes are compared beat by beat, so a row that falls is
read from its end, where its notes are a word of the table turned about.
"""

from leadbeats.rows import members, offset
from leadbeats.tables import loops, turned
from leadbeats.tails import ways_of

RISING = "rising"
FALLING = "falling"
LOOP = "loop"


def line_of(canon, n, beat):
    """Tell the line of a beat of a tune of n beats."""
    if canon.loop() == beat:
        return (LOOP, [beat])
    beats = members(canon, n, beat)
    return (FALLING, beats[::-1]) if offset(canon, beat) < 0 else (RISING, beats)


def lines_of(canon, n):
    """Tell the list of all lines of a tune of n beats."""
    return lines_through(canon, n, list(range(n)))


def lines_through(canon, n, wanted):
    """Tell the list of the lines of a tune of n beats in which some wanted beats are, each line once."""
    told = []
    seen = {}
    for beat in wanted:
        if beat not in seen:
            kind, beats = line_of(canon, n, beat)
            told.append((kind, beats))
            for other in beats:
                seen[other] = True
    return told


def ways_by_kind(table):
    """Tell by each kind of line the ways of its words."""
    alone = {(): []}
    for note in loops(table):
        alone[()].append((note, (note,)))
        alone[(note,)] = []
    return {RISING: ways_of(table), FALLING: ways_of(turned(table)), LOOP: alone}


def next_beat(canon, kind, beat):
    """Tell the beat that comes behind a beat in a line of a longer tune, None where there is none; not of the loop."""
    return canon.ahead(beat) if kind == FALLING else canon.led(beat)
