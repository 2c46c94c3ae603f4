"""What the tests of tables, words, counts and tunes compare with: all lists of notes, tried one by one."""

import functools
import itertools
import random
from fractions import Fraction
from math import prod

from leadbeats.tables import Table
from tests.walks import walk

walked = functools.cache(walk)


def chords(notes, voices):
    """All tuples of notes, one for each voice, sorted."""
    return list(itertools.product(range(notes), repeat=voices))


def all_lists(notes, length):
    """All lists of so many notes, sorted."""
    return [list(told) for told in itertools.product(range(notes), repeat=length)]


def is_word(table, notes):
    """Whether a list is a word."""
    allowed, voices = table.allowed(), table.voices()
    return all(tuple(notes[at:at + voices]) in allowed for at in range(len(notes) - voices + 1))


def all_words(table, length):
    """All words of a length, sorted, tried one by one."""
    return [notes for notes in all_lists(table.notes(), length) if is_word(table, notes)]


@functools.cache
def grown(notes, voices, allowed, length, known):
    """How many words of a length have known notes: all words grown note by note, alike ends taken together."""
    heard = dict(known)
    ends = {(): 1}
    for place in range(length):
        later = {}
        for end, many in ends.items():
            for note in range(notes):
                told = end + (note,)
                if heard.get(place, note) == note and (len(told) < voices or told in allowed):
                    told = told[-(voices - 1):]
                    later[told] = later.get(told, 0) + many
        ends = later
    return sum(ends.values())


def count(table, length, known=()):
    """How many words of a length have known notes."""
    return grown(table.notes(), table.voices(), frozenset(table.allowed()), length, tuple(sorted(known)))


def drawn(seed, notes, voices, many):
    """So many tables drawn, the same ones each time, of few tuples and of many."""
    told = []
    for number in range(many):
        chance = random.Random(f"{seed} {notes} {voices} {number}")
        share = chance.choice((0.2, 0.5, 0.8))
        allowed = [chord for chord in chords(notes, voices) if chance.random() < share]
        chance.shuffle(allowed)
        told.append(Table(notes, voices, allowed))
    return told


@functools.cache
def ending(seed, notes, voices, share=1):
    """A table drawn, the same each time, with as many tuples as its words still end with, or a share of them."""
    chance = random.Random(f"{seed} {notes} {voices}")
    allowed = []
    for chord in chance.sample(chords(notes, voices), notes ** voices):
        # Longer words would go through the same notes, one fewer than voices, twice.
        if count(Table(notes, voices, allowed + [chord]), notes ** (voices - 1) + voices) == 0:
            allowed.append(chord)
    return Table(notes, voices, allowed[:int(len(allowed) * share)])


def every(notes, voices):
    """All tables of so many notes and voices."""
    told = chords(notes, voices)
    return [Table(notes, voices, [chord for at, chord in enumerate(told) if number >> at & 1])
            for number in range(1 << len(told))]


def rising_table(notes, voices, by=0):
    """The table of the tuples whose notes rise throughout (or stay, by 1), so that its words end."""
    return Table(notes, voices, [chord for chord in chords(notes, voices)
                                 if all(one < other + by for one, other in zip(chord, chord[1:]))])


def full_table(notes, voices):
    """The table that allows all."""
    return Table(notes, voices, chords(notes, voices))


def small_tables():
    """Small tables: of each number of notes and voices some, none, all and few tuples among them."""
    told = every(1, 2) + every(1, 3) + every(1, 4) + every(2, 2) + every(2, 3)[::9]
    for notes, voices, many in ((2, 4, 12), (3, 2, 14), (3, 3, 8), (3, 4, 3), (4, 2, 6), (4, 3, 3), (4, 4, 2)):
        told += drawn("small", notes, voices, many)
        told += [Table(notes, voices, []), full_table(notes, voices), rising_table(notes, voices)]
    return told


def tuned_tables():
    """Fewer small tables, of two and three notes, for which all tunes are tried."""
    return (every(1, 2) + every(1, 3) + every(2, 2) + drawn("tuned", 2, 3, 7) + drawn("tuned", 3, 2, 6)
            + drawn("tuned", 3, 3, 2) + [rising_table(3, 2), full_table(2, 3), Table(2, 4, [(0, 1, 1, 0)])])


def tuned_numbers():
    """The four numbers of canons: rising rows, falling rows, loops at and beyond 0, common divisors."""
    return [(1, 0, 2, 0), (1, 0, 2, 1), (1, 2, 2, 0), (1, 4, 2, 0), (1, 3, 3, 1), (1, 9, 2, 1), (2, 1, 3, 0),
            (2, 3, 3, 2), (2, 6, 3, 0), (2, 2, 4, 0), (2, 3, 4, 0), (2, 0, 4, 2), (3, 5, 4, 1), (1, 40, 2, 3)]


def loop_notes(table):
    """The notes that may sound with themselves."""
    return [note for note in range(table.notes()) if (note,) * table.voices() in table.allowed()]


def fits(numbers, table, tune):
    """Whether a tune fits, row by row."""
    told, loop = walked(numbers, len(tune))
    if loop is not None and tune[loop] not in loop_notes(table):
        return False
    return all(is_word(table, [tune[beat] for beat in beats]) for beats in told)


def fitting_tunes(numbers, table, n):
    """All fitting tunes of n beats, sorted, tried one by one."""
    return [tune for tune in all_lists(table.notes(), n) if fits(numbers, table, tune)]


def powers(numbers, table, n):
    """The numbers of words of all rows, and of notes of the loop, with how often each stands there."""
    told, loop = walked(numbers, n)
    bases = [count(table, len(beats)) for beats in told]
    if loop is not None:
        bases.append(len(loop_notes(table)))
    return {base: bases.count(base) for base in bases}


def many_tunes(numbers, table, n):
    """How many tunes of n beats fit, by the numbers of words."""
    return prod(base ** exponent for base, exponent in powers(numbers, table, n).items())


def first_bar(numbers, table, n):
    """What bars all tunes of n beats, None where one fits."""
    told, loop = walked(numbers, n)
    if loop is not None and not loop_notes(table):
        return ("loop", loop)
    barred = [(len(beats), beats[0]) for beats in told if count(table, len(beats)) == 0]
    return ("row", min(barred)[1], min(barred)[0]) if barred else None


def furthest(numbers, table, tune, bound):
    """The greatest length up to a bound of a fitting tune that begins with a tune; below that of it where none does."""
    for n in range(len(tune), bound + 1):
        told, loop = walked(numbers, n)
        if loop is not None and not (loop_notes(table) if loop >= len(tune) else tune[loop] in loop_notes(table)):
            return n - 1
        for beats in told:
            known = [(place, tune[beat]) for place, beat in enumerate(beats) if beat < len(tune)]
            if count(table, len(beats), known) == 0:
                return n - 1
    return bound


def as_pair(worth):
    """A Fraction as the program tells it."""
    return (Fraction(worth).numerator, Fraction(worth).denominator)
