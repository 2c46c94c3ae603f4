"""By which canons of two voices a round or a tune fits."""

from leadbeats.errors import BadTune, NoNumber, Unlike
from leadbeats.songs import check_song, song_amiss
from leadbeats.tables import Table, notes_fault
from leadbeats.wholes import is_from

MOST_ROUNDS = 12
MOST_BEATS = 60
HIGHEST_PACE = 12
HIGHEST_ENTRY = 12


def rests_of(table, song):
    """Tell the sorted list of all rests (a, b, c, d), by the round's length, of canons that a round fits."""
    check_two_voices(table)
    check_song(table, song)
    return rests_by(table, [song])


def least_canon(table, song):
    """Tell the four numbers of the least canon that a round fits, None where there is none."""
    return min([least_of_rests(rests, len(song)) for rests in rests_of(table, song)], default=None)


def rests_shared(table, songs):
    """Tell the sorted list of the rests by which all of some rounds fit."""
    check_two_voices(table)
    check_rounds(table, songs)
    return rests_by(table, songs)


def canons_of(table, tune, pace, entry):
    """Tell the sorted list of the four numbers of all canons within the bounds that a tune fits."""
    check_tune_and_bounds(table, tune, pace, entry)
    return [numbers for numbers in all_numbers(pace, entry) if lasts(table, tune, numbers) == len(tune)]


def furthest(table, tune, pace, entry):
    """Tell the greatest n such that a tune's first n beats fit a canon within the bounds, and the least such canon."""
    check_tune_and_bounds(table, tune, pace, entry)
    far, numbers = min([(-lasts(table, tune, numbers), numbers) for numbers in all_numbers(pace, entry)])
    return (-far, numbers)


def check_two_voices(table):
    """Refuse what is no table of two voices."""
    if not isinstance(table, Table) or table.voices() != 2:
        raise Unlike("voices")


def check_rounds(table, songs):
    """Refuse what is no list of one to twelve rounds of like length."""
    if not isinstance(songs, list) or not 1 <= len(songs) <= MOST_ROUNDS:
        raise BadTune(-1)
    for at, song in enumerate(songs):
        if song_amiss(table, song) is not None or len(song) != len(songs[0]):
            raise BadTune(at)


def check_tune_and_bounds(table, tune, pace, entry):
    """Refuse what is no table of two voices, no tune, no pace, no entry."""
    check_two_voices(table)
    at = notes_fault(table, tune, MOST_BEATS)
    if at is not None:
        raise BadTune(at)
    if not is_from(pace, 2) or pace > HIGHEST_PACE:
        raise NoNumber(pace)
    if not is_from(entry, 0) or entry > HIGHEST_ENTRY:
        raise NoNumber(entry)


def rests_by(table, songs):
    """Tell the sorted list of the rests by which all of some rounds of like length fit."""
    rests = list(range(len(songs[0])))
    meeting = meeting_places(table, songs)
    return [(a, b, c, d) for a in rests for b in rests for c in rests for d in rests
            if all([((a * moment + b) % len(rests), (c * moment + d) % len(rests)) in meeting for moment in rests])]


def meeting_places(table, songs):
    """Tell a dict of the two places whose notes may sound together in all of some rounds."""
    allowed = table.allowed()
    places = list(range(len(songs[0])))
    return {(one, other): True for one in places for other in places
            if all([(song[one], song[other]) in allowed for song in songs])}


def least_of_rests(rests, many):
    """Tell the least four numbers of a canon that leave rests by a number."""
    a, b, c, d = rests
    least_a = a if a > 0 else many
    # The least pace above the other one that leaves the rest.
    return (least_a, b, least_a + 1 + (c - least_a - 1) % many, d)


def all_numbers(pace, entry):
    """Tell the sorted list of the four numbers of all canons within the bounds."""
    entries = list(range(entry + 1))
    return [(a, b, c, d) for a in range(1, pace) for b in entries for c in range(a + 1, pace + 1) for d in entries]


def lasts(table, tune, numbers):
    """Tell the greatest n such that a tune's first n beats fit a canon."""
    a, b, c, d = numbers
    allowed = table.allowed()
    while b < len(tune) and d < len(tune):
        if (tune[b], tune[d]) not in allowed:
            return max(b, d)
        b += a
        d += c
    return len(tune)
