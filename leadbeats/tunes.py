"""Tunes told whole, and single notes of the first and the last one."""

from leadbeats.costs import Costs, change_fares
from leadbeats.counts import as_number, bar
from leadbeats.errors import BadTune, NoLength, NoNumber, TooMany
from leadbeats.lines import LOOP, RISING, line_of, lines_of, next_beat, ways_by_kind
from leadbeats.rows import check_beat, check_length, reach_from
from leadbeats.scores import Score
from leadbeats.tables import loops, notes_fault
from leadbeats.tails import chosen, how_far, outer_word, tail_of
from leadbeats.wholes import is_from

MOST_BEATS = 300
MOST_TUNES = 400


def fault(canon, table, tune):
    """Tell None of a tune that fits, else (moment, beats) of the first moment at which notes may not sound."""
    check_tune(table, tune)
    allowed = table.allowed()
    moment = 0
    beat = canon.b
    while beat < len(tune):
        beats = beats_together(canon, table, len(tune), beat)
        if len(beats) == table.voices() and tuple([tune[sung] for sung in beats]) not in allowed:
            return (moment, tuple(beats))
        moment += 1
        beat += canon.a
    return None


def first_note(canon, table, n, beat):
    """Tell which note a beat has in the first fitting tune of n beats, None where none fits."""
    return outer_note(canon, table, n, beat, 0)


def last_note(canon, table, n, beat):
    """Tell which note a beat has in the last fitting tune of n beats, None where none fits."""
    return outer_note(canon, table, n, beat, -1)


def all_tunes(canon, table, n):
    """Tell the sorted list of all fitting tunes of n beats, where they are four hundred at most."""
    check_told_length(n)
    many = as_number(canon, table, n)
    if many > MOST_TUNES:
        raise TooMany(MOST_TUNES)
    score = Score(canon, table, n)
    tunes = [[]] if many > 0 else []
    for beat in range(n):
        tunes = [tune + [note] for tune in tunes for note, tail, words in score.choices_behind(tune) if words > 0]
    return tunes


def tune_at(canon, table, n, number):
    """Tell the fitting tune of n beats that has a number, from 0, as lists compare."""
    check_told_length(n)
    total = as_number(canon, table, n)
    if not is_from(number, 0) or number >= total:
        raise NoNumber(number)
    score = Score(canon, table, n)
    tune = []
    for beat in range(n):
        choices = score.choices_behind(tune)
        # Each choice in this line goes with every choice in the other ones.
        others = total // words_of(choices)
        (note, tail, words), passed = chosen(choices, number // others)
        number -= passed * others
        total = words * others
        tune.append(note)
    return tune


def tune_number(canon, table, tune):
    """Tell the number of a fitting tune among all of its length, as lists compare."""
    check_fits(canon, table, tune)
    score = Score(canon, table, len(tune))
    total = as_number(canon, table, len(tune))
    number = 0
    for beat, sung in enumerate(tune):
        choices = score.choices_behind(tune[:beat])
        others = total // words_of(choices)
        number += others * words_of([choice for choice in choices if choice[0] < sung])
        total = others * words_of([choice for choice in choices if choice[0] == sung])
    return number


def mended(canon, table, tune):
    """Tell None where no tune of this length fits, else the fewest changes by which it fits, and the first such."""
    check_tune(table, tune)
    if bar(canon, table, len(tune)) is not None:
        return None
    ways = ways_by_kind(table)
    costs = {kind: Costs(ways[kind]) for kind in ways}
    other = list(tune)
    for kind, beats in lines_of(canon, len(tune)):
        word = costs[kind].cheapest_word(change_fares(table, [tune[beat] for beat in beats]))
        for beat, note in zip(beats, word):
            other[beat] = note
    return (len([beat for beat, note in enumerate(tune) if other[beat] != note]), other)


def next_notes(canon, table, tune):
    """Tell the rising list of the notes with which a fitting tune, one beat longer, fits."""
    check_fits(canon, table, tune)
    kind, beats = line_of(canon, len(tune) + 1, len(tune))
    tail = tail_of(table, [tune[beat] for beat in beats[:-1]])
    return [note for note, behind in ways_by_kind(table)[kind][tail]]


def goes_on(canon, table, tune):
    """Tell the greatest length of a fitting tune that begins with a fitting one, None where there is none greatest."""
    check_fits(canon, table, tune)
    ways = ways_by_kind(table)
    far = {kind: how_far(ways[kind]) for kind in ways}
    barred = [barred_loop(canon, table, len(tune)), barred_run(canon, len(tune), far[RISING][()])]
    for kind, beats in lines_of(canon, len(tune)):
        if kind != LOOP:
            tail = tail_of(table, [tune[beat] for beat in beats])
            barred.append(barred_beat(canon, kind, beats[-1], far[kind][tail]))
    return min([beat for beat in barred if beat is not None], default=None)


def check_tune(table, tune):
    """Refuse what is no tune."""
    at = notes_fault(table, tune, MOST_BEATS)
    if at is not None:
        raise BadTune(at)


def check_fits(canon, table, tune):
    """Refuse what is no tune, then what does not fit."""
    if fault(canon, table, tune) is not None:
        raise BadTune(len(tune))


def check_told_length(n):
    """Refuse what is no length of a tune that is told whole."""
    check_length(n, 0)
    if n > MOST_BEATS:
        raise NoLength(n)


def beats_together(canon, table, n, beat):
    """Tell the beats of a tune of n beats that the voices sing together where the first one sings a beat."""
    beats = [beat]
    while len(beats) < table.voices():
        beat = canon.led(beat)
        if beat is None or beat >= n:
            break
        beats.append(beat)
    return beats


def outer_note(canon, table, n, beat, at):
    """Tell a beat's note in the first fitting tune of n beats, or in the last one, at being 0 or -1."""
    check_beat(n, beat)
    if bar(canon, table, n) is not None:
        return None
    kind, beats = line_of(canon, n, beat)
    return outer_word(ways_by_kind(table)[kind], len(beats), at)[beats.index(beat)]


def words_of(choices):
    """Tell how many words choices have together."""
    return sum([words for note, tail, words in choices])


def barred_loop(canon, table, n):
    """Tell the loop where it is n or more and no note may stand there, else None."""
    loop = canon.loop()
    return loop if loop is not None and loop >= n and len(loops(table)) == 0 else None


def barred_run(canon, n, most):
    """Tell the least beat with which more beats from n on, one led to the next, than a word has are in a tune."""
    return None if most is None else reach_from(canon, n, most)


def barred_beat(canon, kind, beat, many):
    """Tell the beat of a line that comes behind so many more ones, None where there is none; many None: no bound."""
    if many is None:
        return None
    for step in range(many + 1):
        beat = next_beat(canon, kind, beat)
        if beat is None:
            break
    return beat
