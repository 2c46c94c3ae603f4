"""Point 47: sheets, which show that no word costs less."""

import copy
import random
import unittest

from leadbeats.efforts import least_word, sheet_of, shown_by
from leadbeats.tables import Table
from tests.trials import chords, drawn, ending, full_table, rising_table, small_tables
from tests.walks import within


def no_sheet(table, prices, length, thing):
    """Why a list of dicts, by tuples of whole numbers, is no sheet; None of a sheet."""
    m = table.voices()
    every = chords(table.notes(), m - 1)
    if len(thing) != length + 2 - m:
        return "many"
    for level in thing:
        if any(tail not in every or number < 0 for tail, number in level.items()):
            return "level"
    if sorted(thing[-1].items()) != [(tail, 0) for tail in every]:
        return "last"
    for earlier, later in zip(thing, thing[1:]):
        for chord in table.allowed():
            if chord[1:] in later:
                if chord[:-1] not in earlier:
                    return "left out"
                if earlier[chord[:-1]] > prices[chord[-1]] + later[chord[1:]]:
                    return "too great"
    return None


def shown(prices, thing):
    """What a sheet shows."""
    told = [number + sum(prices[note] for note in tail) for tail, number in thing[0].items()]
    return ("least", min(told)) if told else ("none",)


def least_shown(table, prices, length):
    """What a sheet that shows the least effort has to show."""
    told = least_word(table, prices, length)
    return ("none",) if told is None else ("least", told[0])


def tables():
    """Tables of all notes and voices."""
    return small_tables()[::4] + [ending("sheet", 3, 2), ending("sheet", 2, 3), rising_table(4, 2), Table(1, 2, [])]


def spoilt(chance, table, thing):
    """A sheet with one thing otherwise, or two."""
    told = copy.deepcopy(thing)
    for again in range(chance.choice((1, 1, 2))):
        level = chance.choice(told) if told else {}
        tail = chance.choice(chords(table.notes(), table.voices() - 1))
        kind = chance.randrange(7)
        if kind == 0 and level:
            level[chance.choice(sorted(level))] += 1
        elif kind == 1 and level:
            level[chance.choice(sorted(level))] -= 1
        elif kind == 2 and level:
            del level[chance.choice(sorted(level))]
        elif kind == 3:
            level[tail] = chance.randrange(3)
        elif kind == 4:
            told.insert(chance.randrange(len(told) + 1), dict(level))
        elif kind == 5 and told:
            told.pop(chance.randrange(len(told)))
        else:
            level.clear()
    return told


class Sheets(unittest.TestCase):
    def cases(self):
        for number, table in enumerate(tables()):
            chance = random.Random(f"sheet {number}")
            for length in (*range(table.voices(), table.voices() + 4), 11):
                prices = [chance.choice((0, 1, 2, 5, 10 ** 9)) for note in range(table.notes())]
                yield chance, table, prices, length

    def test_what_is_told_shows_just_the_least_effort(self):
        kinds = set()
        for chance, table, prices, length in self.cases():
            sheet = sheet_of(table, prices, length)
            self.assertIsInstance(sheet, list)
            self.assertEqual(len(sheet), length + 2 - table.voices())
            self.assertIsNone(no_sheet(table, prices, length, sheet))
            wanted = least_shown(table, prices, length)
            self.assertEqual(shown(prices, sheet), wanted)
            self.assertEqual(shown_by(table, prices, length, sheet), wanted)
            kinds.add(wanted[0])
        self.assertEqual(kinds, {"least", "none"})

    def test_one_thing_otherwise(self):
        kinds = set()
        for chance, table, prices, length in self.cases():
            sheet = sheet_of(table, prices, length)
            for again in range(25):
                thing = spoilt(chance, table, sheet)
                why = no_sheet(table, prices, length, thing)
                told = shown_by(table, prices, length, thing)
                self.assertEqual(told, shown(prices, thing) if why is None else None, (table.allowed(), thing))
                kinds.add(why or told[0])
                # Whatever it is, a sheet shows no more than holds.
                wanted = least_shown(table, prices, length)
                if told is not None and wanted[0] == "least":
                    self.assertTrue(told[0] == "least" and told[1] <= wanted[1])
        self.assertEqual(kinds, {"many", "level", "last", "left out", "too great", "least", "none"})

    def test_a_sheet_of_less(self):
        table = Table(2, 2, [(0, 1), (1, 0), (1, 1)])
        sheet = [{(0,): 3, (1,): 4}, {(0,): 3, (1,): 1}, {(0,): 0, (1,): 0}]
        self.assertEqual(sheet_of(table, [1, 3], 3), [{(0,): 4, (1,): 4}, {(0,): 3, (1,): 1}, {(0,): 0, (1,): 0}])
        self.assertEqual(shown_by(table, [1, 3], 3, sheet), ("least", 4))
        self.assertEqual(shown_by(thing=sheet_of(length=3, prices=[1, 3], table=table), length=3, prices=[1, 3],
                                  table=table), ("least", 5))
        zeros = [{(0,): 0, (1,): 0}] * 3
        self.assertEqual(shown_by(table, [1, 3], 3, zeros), ("least", 1))
        self.assertIsNone(shown_by(table, [1, 3], 2, zeros))
        self.assertIsNone(shown_by(table, [1, 3], 4, zeros))

    def test_tuples_that_no_word_goes_through(self):
        # Words have two notes at most.
        table = Table(3, 2, [(0, 1)])
        last = {(0,): 0, (1,): 0, (2,): 0}
        self.assertEqual(shown_by(table, [1, 1, 1], 3, [{}, {(0,): 1}, last]), ("none",))
        self.assertEqual(shown_by(table, [1, 1, 1], 3, [{(2,): 9}, {(0,): 1}, last]), ("least", 10))
        self.assertEqual(shown_by(table, [1, 1, 1], 3, [{(2,): 9}, {(0,): 1, (2,): 0}, last]), ("least", 10))
        self.assertIsNone(shown_by(table, [1, 1, 1], 3, [{(2,): 9}, {(0,): 1, (1,): 7}, last]))
        self.assertEqual(shown_by(table, [1, 1, 1], 3, [{(0,): 8}, {(0,): 1, (1,): 7}, last]), ("least", 9))
        self.assertIsNone(shown_by(table, [1, 1, 1], 3, [{(0,): 9}, {(0,): 1, (1,): 7}, last]))

    def test_no_sheets(self):
        table, prices = Table(2, 2, [(0, 1), (1, 0), (1, 1)]), [1, 3]
        sheet = sheet_of(table, prices, 3)
        first, middle, last = sheet
        self.assertEqual(shown_by(table, prices, 3, [first, middle, last]), ("least", 5))
        for thing in (
                None, True, False, 0, -1, "", "sheet", b"", (), [], {}, object(), tuple(sheet), [sheet], {0: sheet},
                [first, middle], [middle, last], [first, last], [first, middle, last, last], [first, first, middle, last],
                [first, middle, middle], [first, middle, None], [None, middle, last], [first, [], last],
                [first, [((0,), 3), ((1,), 1)], last], [list(first), middle, last], [first, "", last], [1, 2, 3],
                [{(0,): 4}, middle, last], [{(0,): 4, (1,): 5}, middle, last], [{(0,): 5, (1,): 4}, middle, last],
                [first, {(0,): 3}, last], [first, {(1,): 1}, last], [first, {}, last], [{}, middle, last],
                [first, middle, {(0,): 0}], [first, middle, {}], [first, middle, {(0,): 0, (1,): 1}],
                [first, middle, {(0,): 0, (1,): False}], [first, middle, {(0,): 0, (1,): None}],
                [{(0,): 4, (1,): True}, middle, last], [{(0,): False, (1,): 4}, middle, last],
                [{(0,): -1, (1,): 4}, middle, last], [{(0,): "4", (1,): 4}, middle, last],
                [{(0,): [], (1,): 4}, middle, last], [{(0,): 4, (1,): 4, (2,): 9}, middle, last],
                [{(0,): 4, (1,): 4, (): 9}, middle, last], [{(0,): 4, (1,): 4, (0, 1): 9}, middle, last],
                [{(0,): 4, (1,): 4, 0: 9}, middle, last], [{(0,): 4, (1,): 4, None: 9}, middle, last],
                [{(0,): 4, (1,): 4, "0": 9}, middle, last], [{(0,): 4, (-1,): 9, (1,): 4}, middle, last],
                [{(0,): 4, (True,): 4}, middle, last], [{(False,): 4, (1,): 4}, middle, last],
                [{0: 4, 1: 4}, {0: 3, 1: 1}, {0: 0, 1: 0}], [{"0": 4, "1": 4}, middle, last],
                [first, middle, {(0,): 0, (1,): 0, (2,): 0}], [first, middle, {(0,): 0, (True,): 0}],
                [{}, {}, last], [{}, {}, {}], [{(0,): 4, (1,): 4}, {(0,): 4, (1,): 1}, last]):
            self.assertIsNone(shown_by(table, prices, 3, thing), thing)

    def test_numbers_however_great(self):
        table = Table(2, 2, [(0, 0)])
        last = {(0,): 0, (1,): 0}
        self.assertEqual(shown_by(table, [1, 3], 2, [{(0,): 1, (1,): 10 ** 29}, last]), ("least", 2))
        self.assertIsNone(shown_by(table, [1, 3], 2, [{(0,): 2, (1,): 10 ** 29}, last]))

    def test_from_the_voices_on_and_three_hundred(self):
        with within(20):
            for notes, voices in ((1, 2), (2, 2), (2, 3), (4, 4)):
                for table in (full_table(notes, voices), Table(notes, voices, []), drawn("edge", notes, voices, 1)[0]):
                    for length in (voices, 300):
                        prices = [10 ** 9 - note for note in range(notes)]
                        sheet = sheet_of(table, prices, length)
                        self.assertEqual(len(sheet), length + 2 - voices)
                        wanted = least_shown(table, prices, length)
                        self.assertEqual(shown_by(table, prices, length, sheet), wanted)
                        if sheet[0]:
                            sheet[0] = {tail: number + 1 for tail, number in sheet[0].items()}
                            self.assertIsNone(shown_by(table, prices, length, sheet))

    def test_other_prices(self):
        table = Table(2, 2, [(0, 1), (1, 0), (1, 1)])
        sheet = sheet_of(table, [1, 3], 3)
        self.assertIsNone(shown_by(table, [1, 2], 3, sheet))
        self.assertEqual(shown_by(table, [2, 3], 3, sheet), ("least", 6))
        self.assertEqual(shown_by(Table(2, 2, [(0, 1)]), [1, 3], 3, sheet), ("least", 5))
        self.assertIsNone(shown_by(full_table(2, 2), [1, 3], 3, sheet))


if __name__ == "__main__":
    unittest.main()
