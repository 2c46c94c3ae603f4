"""Counts: how many tunes fit a canon and a table, and what bars them."""

from leadbeats.errors import TooMany
from leadbeats.rows import check_length, reach_from, row, row_at, rows
from leadbeats.tables import loops
from leadbeats.tails import most_notes, ways_of, word_counts
from leadbeats.wholes import fraction, power

MOST_BEATS = 1000


def fitting(canon, table, n):
    """Tell how many tunes of n beats fit, as a rising list of (base, exponent); [(1, 1)] of one, [] of none."""
    if bar(canon, table, n) is not None:
        return []
    return as_powers(factors(canon, table, n))


def bar(canon, table, n):
    """Tell None where a tune of n beats fits, else ("loop", beat) or ("row", first, length) of what bars all."""
    check_length(n, 0)
    if has_loop(canon, n) and len(loops(table)) == 0:
        return ("loop", canon.loop())
    most = most_notes(table)
    if most is None:
        return None
    barred = [length for length, many in rows(canon, n) if length > most]
    return ("row", row_at(canon, n, barred[0], 0), barred[0]) if len(barred) > 0 else None


def longest_tune(canon, table):
    """Tell None where tunes of all lengths fit, else the greatest n of which one fits, and what bars one beat more."""
    beats = []
    if canon.loop() is not None and len(loops(table)) == 0:
        beats.append(canon.loop())
    most = most_notes(table)
    last = None if most is None else reach_from(canon, 0, most)
    if last is not None:
        beats.append(last)
    if len(beats) == 0:
        return None
    n = min(beats)
    return (n, bar(canon, table, n + 1))


def growth(canon, table, n):
    """Tell by which fraction the number of fitting tunes of n + 1 beats comes of that of n, None where that is 0."""
    if bar(canon, table, n) is not None:
        return None
    first, place, length = row(canon, n + 1, n)
    if length is None:
        return (len(loops(table)), 1)
    many = word_counts(ways_of(table), length)
    return fraction(many[length], many[length - 1])


def as_number(canon, table, n):
    """Tell how many tunes of n beats fit, as one whole number, for n up to a thousand."""
    check_length(n, 0)
    if n > MOST_BEATS:
        raise TooMany(MOST_BEATS)
    told = 1
    powers = fitting(canon, table, n)
    for base, exponent in powers:
        told *= power(base, exponent)
    return told if len(powers) > 0 else 0


def has_loop(canon, n):
    """Tell whether a tune of n beats has the loop."""
    loop = canon.loop()
    return loop is not None and loop < n


def factors(canon, table, n):
    """Tell a list of (number of words, how many rows) for each length of rows, with (number of notes, 1) of a loop."""
    lengths = rows(canon, n)
    told = [(len(loops(table)), 1)] if has_loop(canon, n) else []
    if len(lengths) > 0:
        words = word_counts(ways_of(table), lengths[-1][0])
        told = told + [(words[length], many) for length, many in lengths]
    return told


def as_powers(parts):
    """Tell what (base, exponent) of some parts, none of base 0, multiply to, each base once; [(1, 1)] of 1."""
    powers = {}
    for base, exponent in parts:
        powers[base] = powers.get(base, 0) + exponent
    told = sorted([(base, powers[base]) for base in powers if base > 1 and powers[base] > 0])
    return told if len(told) > 0 else [(1, 1)]
