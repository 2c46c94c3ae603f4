"""Heard notes: which tunes that fit have them, and what else they tell of these tunes."""

from leadbeats.counts import as_powers, factors
from leadbeats.hearing import Hearing
from leadbeats.lines import line_of
from leadbeats.rows import check_beat, row
from leadbeats.tails import Chart, all_ends
from leadbeats.wholes import is_whole


def many_heard(canon, table, n, heard):
    """Tell how many tunes of n beats fit and have the heard notes, as a list of (base, exponent)."""
    hearing = Hearing(canon, table, n, heard)
    if hearing.barred_line() is not None:
        return []
    parts = factors(canon, table, n)
    for kind, beats in hearing.lines:
        # The words with what is heard stand in place of all words of the line.
        parts.append((words_with(hearing.ways[kind], len(beats), {}), -1))
        parts.append((words_with(hearing.ways[kind], len(beats), hearing.known_on(beats)), 1))
    return as_powers(parts)


def may_have(canon, table, n, heard, beat):
    """Tell the rising list of the notes that a beat has in the tunes that fit and have the heard notes."""
    hearing = Hearing(canon, table, n, heard)
    check_beat(n, beat)
    if hearing.barred_line() is not None:
        return []
    kind, beats = line_of(canon, n, beat)
    return hearing.notes_on((kind, beats))[beats.index(beat)]


def surely(canon, table, n, heard):
    """Tell the rising list of (beat, note) of all beats, of rows on which something is heard, that have one note alone.

    It is None where no tune fits and has the heard notes.
    """
    hearing = Hearing(canon, table, n, heard)
    if hearing.barred_line() is not None:
        return None
    told = []
    for kind, beats in hearing.lines:
        for beat, notes in zip(beats, hearing.notes_on((kind, beats))):
            if len(notes) == 1:
                told.append((beat, notes[0]))
    return sorted(told)


def clash_of(canon, table, n, heard):
    """Tell None where a tune fits and has the heard notes, else (first, length, known) of a row that bars all."""
    hearing = Hearing(canon, table, n, heard)
    line = hearing.barred_line()
    return None if line is None else hearing.clash_on(line)


def is_clash(canon, table, n, heard, thing):
    """Tell of anything whether it is a clash."""
    hearing = Hearing(canon, table, n, heard)
    if not is_clash_shape(thing) or not 0 <= thing[0] < n:
        return False
    first, place, length = row(canon, n, thing[0])
    line = line_of(canon, n, first)
    return hearing.clash_on(line) == thing and not hearing.has_word(line)


def least_heard(canon, table, n, heard):
    """Tell the rising list of the places of the fewest heard notes by which no tune fits, None where one does."""
    hearing = Hearing(canon, table, n, heard)
    line = hearing.barred_line()
    if line is None:
        return None
    places = {beat: at for at, beat in enumerate(hearing.given)}
    found = []
    for kind, beats in [line] + hearing.lines:
        marks = {place: places[beat] for place, beat in enumerate(beats) if beat in places}
        fewest = hearing.reaches[kind].fewest_known(len(beats), hearing.known_on(beats), marks)
        if fewest is not None:
            found.append((len(fewest), fewest))
    return min(found)[1]


def words_with(ways, length, known):
    """Tell how many words of a length have known notes, a dict by places."""
    return Chart(ways, length, known, all_ends(ways)).all_from(())


def is_clash_shape(thing):
    """Tell of anything whether it is a tuple of two whole numbers and a list of tuples of two whole numbers."""
    return (isinstance(thing, tuple) and len(thing) == 3 and is_whole(thing[0]) and is_whole(thing[1])
            and isinstance(thing[2], list) and all([is_pair(pair) for pair in thing[2]]))


def is_pair(thing):
    """Tell of anything whether it is a tuple of two whole numbers."""
    return isinstance(thing, tuple) and len(thing) == 2 and is_whole(thing[0]) and is_whole(thing[1])
