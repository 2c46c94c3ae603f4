"""Tails: what may come behind the notes of a word.

The tail of a word is its last notes, one fewer than the table has voices, or all where it has no more. What may
come behind a word hangs on its tail alone. WAYS are a dict that has, by each tail, the rising list of the tuples
(note, tail behind it) of the notes that may come next; so words are read off by going these ways from tail ().
"""


class Chart:
    """How many words of a length, through known notes, go on from each tail at each place.

    Known notes are a dict by places; ends are the tails at which a word may end, as a dict of 1 and 0.
    """

    def __init__(self, ways, length, known, ends):
        self.ways = ways
        self.known = known
        later = [ends]
        for place in reversed(range(length)):
            later.append(one_more(ways, later[-1], known.get(place)))
        self.still = later[::-1]

    def all_from(self, tail):
        """Tell how many words begin with a tail that stands ahead of their first place."""
        return self.still[0][tail]

    def choices(self, place, tail):
        """Tell the rising list of (note, tail behind it, how many words go on so) for a place behind a tail."""
        later = self.still[place + 1]
        return [(note, behind, later[behind]) for note, behind in self.ways[tail]
                if self.known.get(place, note) == note]

    def word_by(self, tail, number):
        """Tell the word of a number, from 0, as lists compare."""
        told = []
        for place in range(len(self.still) - 1):
            (note, tail, many), passed = chosen(self.choices(place, tail), number)
            number -= passed
            told.append(note)
        return told


def ways_of(table):
    """Tell the ways of a table."""
    notes = list(range(table.notes()))
    told = {}
    level = [()]
    for size in range(table.voices() - 1):
        for tail in level:
            told[tail] = [(note, (*tail, note)) for note in notes]
        level = [(*tail, note) for tail in level for note in notes]
    for tail in level:
        told[tail] = []
    for chord in table.allowed():
        told[chord[:-1]].append((chord[-1], chord[1:]))
    return told


def tail_of(table, notes):
    """Tell the tail of a list of notes."""
    return tuple(notes[1 - table.voices():])


def one_more(ways, later, wanted):
    """Tell by tails how many words go on with one note more, of the later ones; the note is wanted, None for any."""
    told = {}
    for tail in ways:
        told[tail] = sum([later[behind] for note, behind in ways[tail] if wanted is None or note == wanted])
    return told


def chosen(choices, number):
    """Tell the choice that has the thing of a number, and how many things the choices ahead of it have."""
    passed = 0
    for choice in choices:
        if number < passed + choice[2]:
            break
        passed += choice[2]
    return (choice, passed)


def all_ends(ways):
    """Tell the ends of a chart whose words may end anyhow."""
    return {tail: 1 for tail in ways}


def word_counts(ways, most):
    """Tell the list of how many words there are of each length up to the most."""
    here = all_ends(ways)
    told = [1]
    for length in range(most):
        here = one_more(ways, here, None)
        told.append(here[()])
    return told


def how_far(ways):
    """Tell by tails how many notes can come behind them at most, None where there is no bound."""
    far = {tail: None for tail in ways}
    left = list(ways)
    steps = 0
    ready = ended(ways, far, left)
    while len(ready) > 0:
        for tail in ready:
            far[tail] = steps
        left = [tail for tail in left if far[tail] is None]
        steps += 1
        ready = ended(ways, far, left)
    # From each tail that is left a way leads to another one that is left, and so on for ever.
    return far


def ended(ways, far, tails):
    """Tell those of some tails from which all ways lead to tails whose bound is told."""
    return [tail for tail in tails if all([far[behind] is not None for note, behind in ways[tail]])]


def most_notes(table):
    """Tell the greatest length of a word, None where there is no bound."""
    return how_far(ways_of(table))[()]


def outer_word(ways, length, at):
    """Tell the first word of a length, or the last one, at being 0 or -1; there has to be one."""
    far = how_far(ways)
    told = []
    tail = ()
    for left in reversed(range(length)):
        going = [(note, behind) for note, behind in ways[tail] if far[behind] is None or far[behind] >= left]
        note, tail = going[at]
        told.append(note)
    return told
