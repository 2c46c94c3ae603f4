"""Hearing: what is heard on the lines of tunes that fit."""

from leadbeats.counts import bar
from leadbeats.errors import BadHeard
from leadbeats.lines import FALLING, LOOP, line_of, lines_through, ways_by_kind
from leadbeats.reaches import Reaches
from leadbeats.rows import check_length
from leadbeats.words import is_known

MOST_HEARD = 40


class Hearing:
    """Heard notes of tunes of n beats, by their beats, and the lines on which something is heard."""

    def __init__(self, canon, table, n, heard):
        self.given = heard_notes(table, n, heard)
        self.canon = canon
        self.table = table
        self.n = n
        self.lines = lines_through(canon, n, list(self.given))
        self.ways = ways_by_kind(table)
        self.reaches = {kind: Reaches(self.ways[kind]) for kind in self.ways}

    def known_on(self, beats):
        """Tell what is heard on some beats, as a dict by their places."""
        return {place: self.given[beat] for place, beat in enumerate(beats) if beat in self.given}

    def has_word(self, line):
        """Tell whether a line has a word with what is heard on it."""
        kind, beats = line
        return self.reaches[kind].all_behind(len(beats), self.known_on(beats))[-1] > 0

    def notes_on(self, line):
        """Tell by each beat of a line the rising list of the notes that it has in words with what is heard on it."""
        kind, beats = line
        return self.reaches[kind].notes_at(len(beats), self.known_on(beats))

    def barred_line(self):
        """Tell a line that has no word with what is heard on it, None where there is none: then a tune fits."""
        barred = bar(self.canon, self.table, self.n)
        if barred is not None:
            return line_of(self.canon, self.n, barred[1])
        for line in self.lines:
            if not self.has_word(line):
                return line
        return None

    def clash_on(self, line):
        """Tell the tuple (first, length, known) of a line's row, and of what is heard on it."""
        kind, beats = line
        in_order = beats[::-1] if kind == FALLING else beats
        known = self.known_on(in_order)
        return (in_order[0], 0 if kind == LOOP else len(beats), sorted([(place, known[place]) for place in known]))


def heard_notes(table, n, heard):
    """Tell heard notes as a dict by beats; refuse what is no length of a tune, then what are no heard notes of it."""
    check_length(n, 0)
    if not isinstance(heard, (list, tuple)):
        raise BadHeard(-1)
    told = {}
    for at, thing in enumerate(heard):
        if at == MOST_HEARD or not is_known(table, n, thing) or thing[0] in told:
            raise BadHeard(at)
        told[thing[0]] = thing[1]
    return told
