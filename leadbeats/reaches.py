"""Reaches: which tails words with known notes can have at each place.

A REACH is a whole number whose bits tell some tails: so it can be remembered what comes behind and ahead of it.
"""


class Reaches:
    """The reaches of words that go some ways; those that were asked for are kept."""

    def __init__(self, ways):
        self.ways = ways
        self.bits = {tail: 1 << at for at, tail in enumerate(ways)}
        self.further = {}
        self.nearer = {}

    def at_first(self):
        """Tell the reach ahead of all notes."""
        return self.bits[()]

    def behind(self, reach, wanted):
        """Tell the reach behind one note more; the note is wanted, None for any."""
        key = (reach, wanted)
        if key not in self.further:
            told = 0
            for tail in self.tails_of(reach):
                for bit in self.bits_behind(tail, wanted):
                    told |= bit
            self.further[key] = told
        return self.further[key]

    def before(self, reach, wanted):
        """Tell the reach of all tails from which one note more leads into a reach; the note is wanted, None for any."""
        key = (reach, wanted)
        if key not in self.nearer:
            told = 0
            for tail in self.ways:
                if any([bit & reach > 0 for bit in self.bits_behind(tail, wanted)]):
                    told |= self.bits[tail]
            self.nearer[key] = told
        return self.nearer[key]

    def bits_behind(self, tail, wanted):
        """Tell the list of the bits of the tails behind a tail and one note more."""
        return [self.bits[behind] for note, behind in self.ways[tail] if wanted is None or note == wanted]

    def tails_of(self, reach):
        """Tell the list of the tails of a reach."""
        return [tail for tail in self.ways if self.bits[tail] & reach > 0]

    def last_notes(self, reach):
        """Tell the rising list of the last notes of the tails of a reach, all of them behind some note."""
        return sorted(set([tail[-1] for tail in self.tails_of(reach)]))

    def all_behind(self, length, known):
        """Tell the list of the reaches ahead of each place of words with known notes, a dict by places, and at last."""
        told = [self.at_first()]
        for place in range(length):
            told.append(self.behind(told[-1], known.get(place)))
        return told

    def notes_at(self, length, known):
        """Tell by each place the rising list of the notes that words with known notes, a dict by places, have there."""
        reached = self.all_behind(length, known)
        here = reached[-1]
        told = []
        for place in reversed(range(length)):
            told.append(self.last_notes(here))
            here = reached[place] & self.before(here, known.get(place))
        return told[::-1]

    def fewest_known(self, length, known, marks):
        """Tell the fewest marks of known notes by which there is no word, as the first such rising list, else None.

        Known notes and their marks, unlike whole numbers, are dicts by places. Of the choices of marks that come to
        one reach only the best one can be the best at last: of two as great, the first stays the first with any
        others put into both.
        """
        best = {self.at_first(): []}
        for place in range(length):
            later = {}
            for reach in best:
                keep_best(later, self.behind(reach, None), best[reach])
                if place in known:
                    keep_best(later, self.behind(reach, known[place]), sorted(best[reach] + [marks[place]]))
            best = later
        return best.get(0)


def keep_best(best, reach, chosen):
    """Put a list of marks by a reach, where none stands there that is shorter, or as short and ahead of it."""
    if reach not in best or (len(chosen), chosen) < (len(best[reach]), best[reach]):
        best[reach] = chosen
