"""Rows: the beats of a tune that hang together by leading.

How many rows there are is told by progressions, tuples (first, step, many) of the beats first, first + step ..,
many of them, one or more. The offset of a beat is how far above the canon's turning point it lies, times c - a:
a whole number, below 0 on rows that fall, and c / a times as great with each step.
"""

from leadbeats.errors import NoBeat, NoLength, NoRow
from leadbeats.wholes import is_from, power, power_inverse, terms_below

MOST_ASKED = 100


def members(canon, n, beat):
    """Tell the list of all beats of a beat's row, in order; of the loop it alone."""
    check_beat(n, beat)
    if canon.loop() == beat:
        return [beat]
    return beats_ahead(canon, n, beat)[::-1] + [beat] + beats_behind(canon, n, beat)


def row(canon, n, beat):
    """Tell (first, place, length) of a beat's row, (beat, 0, None) of the loop."""
    check_beat(n, beat)
    if canon.loop() == beat:
        return (beat, 0, None)
    before = beats_ahead(canon, n, beat)
    first = before[-1] if len(before) > 0 else beat
    return (first, len(before), len(before) + 1 + len(beats_behind(canon, n, beat)))


def runs(canon, n, length):
    """Tell from how many beats of the tune, but the loop, so many beats are led to, itself the first."""
    check_length(n, 0)
    check_length(length, 1)
    return many_starts(canon, n, length - 1)


def rows(canon, n):
    """Tell the rising list of (length, how many) for each length of which there are rows."""
    check_length(n, 0)
    told = []
    length = 1
    here, one_more = many_starts(canon, n, 0), many_starts(canon, n, 1)
    while here > 0:
        two_more = many_starts(canon, n, length + 1)
        many = here - 2 * one_more + two_more
        if many > 0:
            told.append((length, many))
        here, one_more = one_more, two_more
        length += 1
    return told


def longest(canon, n):
    """Tell the greatest length of a row, 0 where there is none."""
    check_length(n, 0)
    length = 0
    while many_starts(canon, n, length) > 0:
        length += 1
    return length


def begun(canon, n, length, beat):
    """Tell how many rows of just so many beats have a first beat below a beat."""
    check_length(n, 0)
    check_length(length, 1)
    if not is_from(beat, 0):
        raise NoBeat(beat)
    return first_below(first_beats(canon, n, length), beat)


def row_at(canon, n, length, number):
    """Tell the first beat of the row of a number among those of just so many beats."""
    check_length(n, 0)
    check_length(length, 1)
    begins = first_beats(canon, n, length)
    if not is_from(number, 0) or number >= first_below(begins, n):
        raise NoRow(number)
    low, high = 0, n - 1
    while low < high:
        middle = (low + high) // 2
        if first_below(begins, middle + 1) > number:
            high = middle
        else:
            low = middle + 1
    return low


def least_for(canon, length):
    """Tell the least n whose tunes have a row of so many beats or more, None where none has."""
    check_length(length, 1)
    if length > MOST_ASKED:
        raise NoLength(length)
    if length == 1:
        return 2 if canon.loop() == 0 else 1
    last = reach_from(canon, 0, length - 1)
    return None if last is None else last + 1


def joins(canon, n):
    """Tell the least beat from n on that hangs together with a lesser one."""
    check_length(n, 0)
    a, b, c, d = canon.numbers()
    # The one voice's first beat from n on: where it does not fall, no later one does.
    falling = b + a * max(0, -((b - n) // a))
    if canon.led(falling) < falling:
        return falling
    # The least moment at which the other voice is beyond the one, and the least at which it sings n or more.
    return d + c * max(0, (b - d) // (c - a) + 1, -((d - n) // c))


def check_length(thing, least):
    """Refuse what is no length from the least one on."""
    if not is_from(thing, least):
        raise NoLength(thing)


def check_beat(n, beat):
    """Refuse what is no length of a tune, then what is no beat of it."""
    check_length(n, 0)
    if not is_from(beat, 0) or beat >= n:
        raise NoBeat(beat)


def beats_ahead(canon, n, beat):
    """Tell the beats of the tune from which a beat is led to, the nearest first; of any beat but the loop."""
    told = []
    beat = canon.ahead(beat)
    while beat is not None and beat < n:
        told.append(beat)
        beat = canon.ahead(beat)
    return told


def beats_behind(canon, n, beat):
    """Tell the beats of the tune to which a beat is led, the nearest first; of any beat but the loop."""
    told = []
    beat = canon.led(beat)
    while beat is not None and beat < n:
        told.append(beat)
        beat = canon.led(beat)
    return told


def many_starts(canon, n, steps):
    """Tell how many beats of the tune, but the loop, are led so many steps on in it."""
    return sum([many for first, step, many in starts(canon, n, steps)])


def starts(canon, n, steps):
    """Tell the rising progressions of the beats of the tune, but the loop, that are led so many steps on in it."""
    if steps == 0:
        return all_but_loop(canon, n)
    parts = canon.inner()
    if parts is not None:
        rest, shared, inside = parts
        found = inner_starts(inside, terms_below(rest, shared, n), steps)
        return [(rest + shared * first, shared * step, many) for first, step, many in found]
    if steps > 1:
        return []
    return progression(canon.b, canon.a, min(terms_below(canon.b, canon.a, n), terms_below(canon.d, canon.c, n)))


def all_but_loop(canon, n):
    """Tell the progressions of all beats of the tune but the loop."""
    loop = canon.loop()
    if loop is None or loop >= n:
        return progression(0, 1, n)
    return progression(0, 1, loop) + progression(loop + 1, 1, n - loop - 1)


def inner_starts(canon, n, steps):
    """Tell what starts tells, for one step or more and paces without a common divisor."""
    end = offset(canon, n - 1)
    # The last beat's offset is a multiple of c ** steps: great powers that no offset reaches are not worked out.
    if steps * (canon.c.bit_length() - 1) >= max(abs(offset(canon, 0)), abs(end)).bit_length():
        return []
    step = power(canon.a, steps)
    falling = least_falling(canon, 0, steps)
    below_turn = min(n, beat_from(canon, 0))
    rising = least_rising(canon, 0, steps)
    below_end = beat_from(canon, step * end // power(canon.c, steps) + 1)
    return (progression(falling, step, terms_below(falling, step, below_turn))
            + progression(rising, step, terms_below(rising, step, below_end)))


def progression(first, step, many):
    """Tell a list of the one progression, an empty one where it has no beats."""
    return [(first, step, many)] if many > 0 else []


def first_beats(canon, n, length):
    """Tell two lists of progressions: the first beats of rows of just so many beats are the one's less the other's.

    Beats that are led so far are first ones but where they are led to by beats that are led one step further.
    """
    here = starts(canon, n, length - 1)
    further = starts(canon, n, length)
    furthest = starts(canon, n, length + 1)
    return (here + led_on(canon, furthest), further + led_on(canon, further))


def led_on(canon, progressions):
    """Tell the progressions of the beats to which those of progressions are led."""
    return [(canon.led(first), step * canon.c // canon.a, many) for first, step, many in progressions]


def first_below(begins, beat):
    """Tell how many first beats, told by first_beats, are below a beat."""
    more, less = begins
    return many_below(more, beat) - many_below(less, beat)


def many_below(progressions, beat):
    """Tell how many beats of progressions are below a beat."""
    return sum([min(many, terms_below(first, step, beat)) for first, step, many in progressions])


def offset(canon, beat):
    """Tell the offset of a beat."""
    return (canon.c - canon.a) * beat - (canon.b * canon.c - canon.a * canon.d)


def beat_from(canon, far):
    """Tell the least whole number whose offset is a number or more."""
    return -((canon.a * canon.d - canon.b * canon.c - far) // (canon.c - canon.a))


def least_falling(canon, low, steps):
    """Tell the least beat, in a row that falls, that is led so many steps on, to beats from a low one on.

    Where there is none the beat told has no offset below 0. The last beat that is led is b at least. The paces have
    no common divisor.
    """
    last_led = offset_ahead(canon, canon.b, steps - 1)
    last = offset_ahead(canon, low, steps)
    return least_divided(canon, steps, beat_from(canon, max(last_led, last)))


def offset_ahead(canon, beat, steps):
    """Tell the least offset from which so many steps lead to a beat's offset or more."""
    return -(-power(canon.a, steps) * offset(canon, beat) // power(canon.c, steps))


def least_rising(canon, low, steps):
    """Tell the least beat from a low one on, in a row that rises, that is led so many steps on in a tune long enough.

    The paces have no common divisor.
    """
    return least_divided(canon, steps, max(low, canon.b, beat_from(canon, 1)))


def least_divided(canon, steps, least):
    """Tell the first beat from a least one on whose offset a ** steps divides."""
    step = power(canon.a, steps)
    turn = canon.b * canon.c - canon.a * canon.d
    return least + (turn * power_inverse(canon.c - canon.a, canon.a, steps) - least) % step


def reach_from(canon, low, steps):
    """Tell the least beat such that so many steps, one or more, are led among it and lesser ones from a low one on.

    The loop's step isn't one. It is None where no beat is led so many steps.
    """
    parts = canon.inner()
    if parts is not None:
        rest, shared, inside = parts
        return rest + shared * inner_reach(inside, max(0, -((rest - low) // shared)), steps)
    if steps > 1:
        return None
    when = max(0, -((canon.b - low) // canon.a), -((canon.d - low) // canon.c))
    return max(canon.a * when + canon.b, canon.c * when + canon.d)


def inner_reach(canon, low, steps):
    """Tell what reach_from tells, for paces without a common divisor. Rows that fall all lie below those that rise."""
    falling = least_falling(canon, low, steps)
    if offset(canon, falling) < 0:
        return falling
    far = offset(canon, least_rising(canon, low, steps))
    return beat_from(canon, power(canon.c, steps) * far // power(canon.a, steps))
