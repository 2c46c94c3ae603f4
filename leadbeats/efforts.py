"""Efforts: what words and tunes cost at least, and sheets that show it."""

from leadbeats.costs import Costs, price_fares
from leadbeats.counts import has_loop
from leadbeats.errors import BadPrices, NoLength
from leadbeats.hearing import Hearing
from leadbeats.lines import LOOP, RISING, line_of
from leadbeats.rows import check_beat, rows
from leadbeats.tables import is_chord
from leadbeats.tails import ways_of
from leadbeats.wholes import is_from
from leadbeats.words import check_word_length, known_notes

HIGHEST_PRICE = 10 ** 9


def least_word(table, prices, length, *, known=()):
    """Tell (effort, word) of the first word of the least effort with the known notes, None where there is no word."""
    check_prices(table, prices)
    fares = price_fares(prices, length, known_notes(table, length, known))
    costs = Costs(ways_of(table))
    effort = costs.least_cost(fares)
    return None if effort is None else (effort, costs.cheapest_word(fares))


def least_effort(canon, table, prices, n, *, heard=()):
    """Tell the least effort of all tunes of n beats that fit and have the heard notes, None where there are none."""
    check_prices(table, prices)
    hearing = Hearing(canon, table, n, heard)
    if hearing.barred_line() is not None:
        return None
    costs = {kind: Costs(hearing.ways[kind]) for kind in hearing.ways}
    lengths = rows(canon, n)
    most = lengths[-1][0] if len(lengths) > 0 else 0
    unheard = costs[RISING].costs_of_ends(price_fares(prices, most, {}))
    at_loop = costs[LOOP].least_cost(price_fares(prices, 1, {}))
    told = sum([many * unheard[length] for length, many in lengths]) + (at_loop if has_loop(canon, n) else 0)
    for kind, beats in hearing.lines:
        # What a heard line costs stands in place of what it would cost unheard.
        told += costs[kind].least_cost(price_fares(prices, len(beats), hearing.known_on(beats)))
        told -= at_loop if kind == LOOP else unheard[len(beats)]
    return told


def least_note(canon, table, prices, n, beat, *, heard=()):
    """Tell the note of a beat in the first tune of the least effort with the heard notes, None where there is none."""
    check_prices(table, prices)
    hearing = Hearing(canon, table, n, heard)
    check_beat(n, beat)
    if hearing.barred_line() is not None:
        return None
    kind, beats = line_of(canon, n, beat)
    fares = price_fares(prices, len(beats), hearing.known_on(beats))
    return Costs(hearing.ways[kind]).cheapest_word(fares)[beats.index(beat)]


def sheet_of(table, prices, length):
    """Tell a sheet that shows the least effort of words of a length, or that there is none."""
    check_prices(table, prices)
    check_sheet_length(table, length)
    told = [{tail: 0 for tail in full_tails(table)}]
    for place in range(length - table.voices() + 1):
        told.append(level_ahead(table, prices, told[-1]))
    return told[::-1]


def shown_by(table, prices, length, thing):
    """Tell ("least", number) of a sheet, ("none",) of one whose first dict is empty, None of what is no sheet."""
    check_prices(table, prices)
    check_sheet_length(table, length)
    if not is_sheet(table, prices, length, thing):
        return None
    begun = [sum([prices[note] for note in tail]) + thing[0][tail] for tail in thing[0]]
    return ("least", min(begun)) if len(begun) > 0 else ("none",)


def check_prices(table, prices):
    """Refuse what are no prices."""
    if not isinstance(prices, list) or len(prices) != table.notes():
        raise BadPrices(-1)
    for at, price in enumerate(prices):
        if not is_from(price, 0) or price > HIGHEST_PRICE:
            raise BadPrices(at)


def check_sheet_length(table, length):
    """Refuse what is no length of a word that a sheet is of."""
    check_word_length(length)
    if length < table.voices():
        raise NoLength(length)


def full_tails(table):
    """Tell the list of all tuples of one note fewer than there are voices."""
    return [tail for tail in ways_of(table) if len(tail) == table.voices() - 1]


def level_ahead(table, prices, later):
    """Tell the dict of a sheet that stands ahead of a later one, its numbers as great as may be."""
    told = {}
    for chord in table.allowed():
        if chord[1:] in later:
            cost = prices[chord[-1]] + later[chord[1:]]
            told[chord[:-1]] = min(cost, told.get(chord[:-1], cost))
    return told


def is_sheet(table, prices, length, thing):
    """Tell of anything whether it is a sheet of a length."""
    if not isinstance(thing, list) or len(thing) != length + 2 - table.voices():
        return False
    if not all([is_level(table, level) for level in thing]):
        return False
    last = thing[-1]
    if len(last) != len(full_tails(table)) or any([last[tail] != 0 for tail in last]):
        return False
    return all([goes_before(table, prices, level, later) for level, later in zip(thing, thing[1:])])


def is_level(table, thing):
    """Tell of anything whether it is a dict of numbers from 0 on by tuples of one note fewer than there are voices."""
    return (isinstance(thing, dict)
            and all([is_chord(table.notes(), table.voices() - 1, tail) and is_from(thing[tail], 0) for tail in thing]))


def goes_before(table, prices, level, later):
    """Tell whether a dict may stand ahead of a later one in a sheet."""
    for chord in table.allowed():
        if chord[1:] in later:
            cost = prices[chord[-1]] + later[chord[1:]]
            if chord[:-1] not in level or level[chord[:-1]] > cost:
                return False
    return True
