"""Words: lists of notes of which all that stand side by side, as many as there are voices, may sound."""

from leadbeats.errors import BadKnown, NoLength, NoNumber, NoPlace, NoWord, TooMany
from leadbeats.tables import MOST_VOICES, Table, check_alike, is_note, notes_fault, turned
from leadbeats.tails import Chart, all_ends, how_far, most_notes, outer_word, ways_of
from leadbeats.wholes import is_from

LONGEST_ASKED = 300


def many_words(table, length, *, known=()):
    """Tell how many words of a length have the known notes."""
    return chart_of(table, length, known_notes(table, length, known)).all_from(())


def may(table, length, place, *, known=()):
    """Tell the rising list of the notes that words with the known notes have at a place."""
    fixed = known_notes(table, length, known)
    if not is_from(place, 0) or place >= length:
        raise NoPlace(place)
    notes = [fixed[place]] if place in fixed else list(range(table.notes()))
    return [note for note in notes if chart_of(table, length, {**fixed, place: note}).all_from(()) > 0]


def first_word(table, length, *, known=()):
    """Tell the first word with the known notes, as lists compare, None where there is none."""
    chart = chart_of(table, length, known_notes(table, length, known))
    return chart.word_by((), 0) if chart.all_from(()) > 0 else None


def last_word(table, length, *, known=()):
    """Tell the last word with the known notes, as lists compare, None where there is none."""
    chart = chart_of(table, length, known_notes(table, length, known))
    many = chart.all_from(())
    return chart.word_by((), many - 1) if many > 0 else None


def word_at(table, length, number, *, known=()):
    """Tell the word of a number, from 0, among those with the known notes, as lists compare."""
    chart = chart_of(table, length, known_notes(table, length, known))
    if not is_from(number, 0) or number >= chart.all_from(()):
        raise NoNumber(number)
    return chart.word_by((), number)


def number_of(table, word):
    """Tell the number of a word among all of its length."""
    at = word_fault(table, word)
    if at is not None:
        raise NoWord(at)
    chart = chart_of(table, len(word), {})
    told = 0
    tail = ()
    for place, wanted in enumerate(word):
        for note, behind, many in chart.choices(place, tail):
            if note == wanted:
                tail = behind
                break
            told += many
    return told


def word_fault(table, word):
    """Tell None of a word, else the least place at which as many notes as voices begin that may not sound."""
    at = notes_fault(table, word, LONGEST_ASKED)
    if at is not None:
        raise NoWord(at)
    voices = table.voices()
    allowed = table.allowed()
    for place in range(len(word) - voices + 1):
        if tuple(word[place:place + voices]) not in allowed:
            return place
    return None


def longest(table):
    """Tell None where there is a word of each length, else the greatest length of one and the first such word."""
    length = most_notes(table)
    return None if length is None else (length, outer_word(ways_of(table), length, 0))


def needless(table, length):
    """Tell the sorted list of the allowed tuples that stand in no word of a length."""
    check_word_length(length)
    if length < table.voices():
        return table.allowed()
    most = stretches(table)
    return [chord for chord in table.allowed() if most[chord] is not None and most[chord] < length]


def apart(one, other):
    """Tell None of equal tables, else (last, word): the last length at which their words differ, and the first such.

    Where there is no last one it is None, and the word is the first one of the least length at which they differ.
    """
    check_alike(one, other)
    if one == other:
        return None
    here, there = only_in(one, other), only_in(other, one)
    most = longest_through(one, here) + longest_through(other, there)
    if None in most:
        return (None, list(min(here + there)))
    last = max(most)
    return (last, min(first_through(one, here, last) + first_through(other, there, last)))


def widened(table):
    """Tell the table of a voice more whose tuples are the words of one note more than there are voices."""
    if table.voices() == MOST_VOICES:
        raise TooMany(MOST_VOICES)
    ways = ways_of(table)
    wider = [(*chord, note) for chord in table.allowed() for note, behind in ways[chord[1:]]]
    return Table(table.notes(), table.voices() + 1, wider)


def check_word_length(thing):
    """Refuse what is no length of a word."""
    if not is_from(thing, 0) or thing > LONGEST_ASKED:
        raise NoLength(thing)


def known_notes(table, length, known):
    """Tell known notes as a dict by places; refuse what is no length, then what are no known notes of it."""
    check_word_length(length)
    if not isinstance(known, (list, tuple)):
        raise BadKnown(-1)
    told = {}
    for at, thing in enumerate(known):
        if not is_known(table, length, thing) or thing[0] in told:
            raise BadKnown(at)
        told[thing[0]] = thing[1]
    return told


def is_known(table, length, thing):
    """Tell of anything whether it is a tuple of a place in a word of a length and a note."""
    return (isinstance(thing, tuple) and len(thing) == 2 and is_from(thing[0], 0) and thing[0] < length
            and is_note(table.notes(), thing[1]))


def chart_of(table, length, fixed):
    """Tell the chart of the words of a length with known notes, a dict by places."""
    ways = ways_of(table)
    return Chart(ways, length, fixed, all_ends(ways))


def stretches(table):
    """Tell by each allowed tuple the greatest length of a word in which it stands, None where there is no bound."""
    far = how_far(ways_of(table))
    back = how_far(ways_of(turned(table)))
    told = {}
    for chord in table.allowed():
        before, after = back[chord[-2::-1]], far[chord[1:]]
        told[chord] = None if before is None or after is None else before + table.voices() + after
    return told


def only_in(one, other):
    """Tell the sorted list of the tuples that the one table allows and the other one does not."""
    others = other.allowed()
    return [chord for chord in one.allowed() if chord not in others]


def longest_through(table, chords):
    """Tell the list, for some allowed tuples, of the greatest lengths of words in which they stand."""
    most = stretches(table)
    return [most[chord] for chord in chords]


def first_through(table, marks, length):
    """Tell a list of the first word of a length in which one of some allowed tuples stands, [] where there is none."""
    ways = marked_ways(ways_of(table), marks)
    # Only those words count that are marked at their end.
    chart = Chart(ways, length, {}, {node: 1 if node[1] else 0 for node in ways})
    start = ((), False)
    return [chart.word_by(start, 0)] if chart.all_from(start) > 0 else []


def marked_ways(ways, marks):
    """Tell the ways whose tails are tuples (tail, whether one of the marked tuples was gone through)."""
    told = {}
    for tail in ways:
        for marked in (False, True):
            told[(tail, marked)] = [(note, (behind, marked or (*tail, note) in marks))
                                    for note, behind in ways[tail]]
    return told
