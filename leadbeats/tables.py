"""Tables: which notes may sound together."""

from leadbeats.errors import BadTable, NoWord, Unlike
from leadbeats.wholes import is_from

MOST_NOTES = 4
MOST_VOICES = 4


class Table:
    """How many notes and voices there are, and the tuples of notes, one for each voice, that may sound."""

    def __init__(self, notes, voices, allowed):
        if not is_from(notes, 1) or notes > MOST_NOTES:
            raise BadTable("notes", None)
        if not is_from(voices, 2) or voices > MOST_VOICES:
            raise BadTable("voices", None)
        at = chords_fault(notes, voices, allowed)
        if at is not None:
            raise BadTable("allowed", at)
        self.tones = notes
        self.singers = voices
        self.chords = sorted(allowed)

    def __eq__(self, other):
        return (isinstance(other, Table) and self.tones == other.tones and self.singers == other.singers
                and self.chords == other.chords)

    def notes(self):
        """Tell how many notes there are."""
        return self.tones

    def voices(self):
        """Tell how many voices there are."""
        return self.singers

    def allowed(self):
        """Tell the sorted list of the tuples that may sound."""
        return list(self.chords)


def loops(table):
    """Tell the rising list of the notes that may sound with themselves in all voices."""
    allowed = table.allowed()
    return [note for note in range(table.notes()) if (note,) * table.voices() in allowed]


def turned(table):
    """Tell the table whose tuples are turned about."""
    return Table(table.notes(), table.voices(), [chord[::-1] for chord in table.allowed()])


def renamed(table, names):
    """Tell the table in which note k is called names[k]; names are a list of all its notes in some order."""
    if notes_fault(table, names, table.notes()) is not None or sorted(names) != list(range(table.notes())):
        raise NoWord(-1)
    return Table(table.notes(), table.voices(),
                 [tuple([names[note] for note in chord]) for chord in table.allowed()])


def both_of(one, other):
    """Tell the table of the tuples that both tables allow."""
    check_alike(one, other)
    others = other.allowed()
    return Table(one.notes(), one.voices(), [chord for chord in one.allowed() if chord in others])


def check_alike(one, other):
    """Refuse two tables of unlike notes or voices."""
    if one.notes() != other.notes():
        raise Unlike("notes")
    if one.voices() != other.voices():
        raise Unlike("voices")


def is_note(notes, thing):
    """Tell of anything whether it is one of so many notes."""
    return is_from(thing, 0) and thing < notes


def notes_fault(table, thing, most):
    """Tell None of a list of at most so many notes, else the first place of what is no note, -1 of no such list."""
    if not isinstance(thing, list) or len(thing) > most:
        return -1
    for at, note in enumerate(thing):
        if not is_note(table.notes(), note):
            return at
    return None


def chords_fault(notes, voices, thing):
    """Tell None of a list of unlike tuples of notes, one for each voice, else the first place amiss, -1 of no list."""
    if not isinstance(thing, list):
        return -1
    seen = {}
    for at, chord in enumerate(thing):
        if not is_chord(notes, voices, chord) or chord in seen:
            return at
        seen[chord] = True
    return None


def is_chord(notes, voices, thing):
    """Tell of anything whether it is a tuple of notes, one for each voice."""
    return (isinstance(thing, tuple) and len(thing) == voices
            and all([is_note(notes, note) for note in thing]))
