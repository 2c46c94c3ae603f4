"""Songs that are sung round and round."""

from leadbeats.costs import Costs, change_fares
from leadbeats.counts import bar, has_loop
from leadbeats.errors import BadTune, NoNumber
from leadbeats.moments import by_rests, length_for_all, meeting_of, meetings
from leadbeats.rows import check_length, starts
from leadbeats.tables import loops, notes_fault
from leadbeats.tails import ways_of
from leadbeats.wholes import is_from

MOST_NOTES_SUNG = 8
MOST_NOTES_TOLD = 5


def song_fault(canon, table, song):
    """Tell None of a song that fits for ever, else (moment, beats) of the first moment at which it does not."""
    check_song(table, song)
    allowed = table.allowed()
    for beats, moments in all_moments(canon, table, len(song)):
        if chord_at(song, beats) not in allowed:
            return (canon.moment(beats[0]), beats)
    return None


def song_lasts(canon, table, song):
    """Tell the greatest n such that a song's first n beats fit, None where it fits for ever."""
    found = song_fault(canon, table, song)
    return None if found is None else max(found[1])


def clashes(canon, table, song, n):
    """Tell at how many moments with all beats below n a song's notes may not sound together."""
    check_song(table, song)
    check_length(n, 0)
    allowed = table.allowed()
    told = by_rests(meetings(canon, n, table.voices()), len(song))
    return sum([moments for beats, moments in told if chord_at(song, beats) not in allowed])


def together(canon, table, many):
    """Tell the sorted list of the tuples of rests, by many, of the beats that all voices sing at some moment."""
    check_number(many, MOST_NOTES_SUNG)
    found = [tuple([beat % many for beat in beats]) for beats, moments in all_moments(canon, table, many)]
    return sorted(set(found))


def songs(canon, table, many):
    """Tell the sorted list of all songs of so many notes that fit for ever."""
    check_number(many, MOST_NOTES_TOLD)
    allowed = table.allowed()
    rests = together(canon, table, many)
    told = [[]]
    for place in range(many):
        told = [song + [note] for song in told for note in range(table.notes())]
    return [song for song in told if all([chord_at(song, places) in allowed for places in rests])]


def least_changes(canon, table, song, n):
    """Tell the fewest of a song's first n beats that have to be changed so that they fit, None where none do."""
    check_song(table, song)
    if bar(canon, table, n) is not None:
        return None
    costs = Costs(ways_of(table))
    told = 1 if has_loop(canon, n) and song[canon.loop() % len(song)] not in loops(table) else 0
    many = 2
    found = starts(canon, n, 1)
    while len(found) > 0:
        runs = [meeting_of(canon, progression, many) for progression in found]
        told += sum([moments * changes_more(costs, change_fares(table, chord_at(song, beats)))
                     for beats, moments in by_rests(runs, len(song))])
        many += 1
        found = starts(canon, n, many - 1)
    return told


def changes_more(costs, fares):
    """Tell how many changes more two or more beats need, each led to the next, than come of their lesser runs.

    Of all runs of a row, from single beats, which need none, to all of it, these come to the changes of the row.
    """
    whole = costs.costs_of_ends(fares)
    but_last = costs.costs_of_ends(fares[:-1])
    return whole[-1] - whole[-2] - but_last[-1] + but_last[-2]


def check_song(table, song):
    """Refuse what is no song."""
    at = song_amiss(table, song)
    if at is not None:
        raise BadTune(at)


def song_amiss(table, song):
    """Tell None of a song, else the first place of what is no note, -1 of what is no list of so many."""
    at = notes_fault(table, song, MOST_NOTES_SUNG)
    return -1 if at is None and len(song) == 0 else at


def check_number(thing, most):
    """Refuse what is no number from 1 to the most."""
    if not is_from(thing, 1) or thing > most:
        raise NoNumber(thing)


def all_moments(canon, table, rests):
    """Tell a list of (beats, how many moments) that has all rests of beats that the voices sing at some moment."""
    n = length_for_all(canon, table.voices(), rests)
    return by_rests(meetings(canon, n, table.voices()), rests)


def chord_at(song, beats):
    """Tell the tuple of a song's notes at some beats."""
    return tuple([song[beat % len(song)] for beat in beats])
