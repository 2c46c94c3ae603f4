"""Points 2, 4, 19, 25 and 26: tables, their loops, and tables made of tables."""

import itertools
import unittest

from leadbeats.errors import BadTable, NoWord, Unlike
from leadbeats.tables import Table, both_of, loops, renamed, turned
from tests.trials import all_words, chords, drawn, every, full_table, small_tables
from tests.walks import GREAT, NO_WHOLES


class Making(unittest.TestCase):
    def refused(self, told, part, at):
        with self.assertRaises(BadTable) as caught:
            Table(*told)
        self.assertEqual((caught.exception.part, caught.exception.at), (part, at), told)

    def test_by_places_and_by_names(self):
        table = Table(3, 2, [(2, 1), (0, 0), (1, 2)])
        self.assertEqual((table.notes(), table.voices(), table.allowed()), (3, 2, [(0, 0), (1, 2), (2, 1)]))
        self.assertEqual(Table(allowed=[(1, 2), (0, 0), (2, 1)], voices=2, notes=3), table)

    def test_bounds(self):
        for notes in range(1, 5):
            for voices in range(2, 5):
                self.assertEqual(Table(notes, voices, []).allowed(), [])
                table = Table(notes, voices, chords(notes, voices)[::-1])
                self.assertEqual((table.notes(), table.voices()), (notes, voices))
                self.assertEqual(table.allowed(), chords(notes, voices))

    def test_sorted_whatever_the_order(self):
        told = [(0, 1), (1, 0), (1, 1), (2, 0)]
        for order in itertools.permutations(told):
            table = Table(3, 2, list(order))
            self.assertEqual(table.allowed(), told)
            self.assertTrue(table == Table(3, 2, told))

    def test_no_notes_and_no_voices(self):
        for thing in NO_WHOLES + (0, 5, 9 * GREAT, [2], (2, 2)):
            self.refused((thing, 2, []), "notes", None)
        for thing in NO_WHOLES + (0, 1, 5, 9 * GREAT, [2], (2, 2)):
            self.refused((2, thing, []), "voices", None)

    def test_no_list(self):
        for thing in (None, True, 0, -1, "", "ab", (), ((0, 0),), {}, {(0, 0): 1}, {(0, 0)}, b"", object()):
            self.refused((2, 2, thing), "allowed", -1)

    def test_the_first_place_amiss(self):
        wrong = [[0, 0], (0,), (0, 0, 0), (), (0, 2), (2, 0), (-1, 0), (True, 0), (0, False), (0, "1"), ("0", 0),
                 (None, 0), ([], 0), (0, {}), ((0,), 0), "00", None, True, 0, {}, {0: 0}, b"00", (0, GREAT)]
        good = [(1, 1), (0, 0), (1, 0)]
        for thing in wrong:
            for at in range(4):
                self.refused((2, 2, good[:at] + [thing] + good[at:]), "allowed", at)
                self.refused((2, 2, good[:at] + [thing, thing, None]), "allowed", at)

    def test_a_tuple_twice(self):
        self.refused((2, 2, [(0, 0), (0, 0)]), "allowed", 1)
        self.refused((2, 2, [(0, 1), (0, 0), (1, 0), (0, 1), None]), "allowed", 3)
        self.refused((2, 2, [(0, 1), (0, 0), None, (0, 1)]), "allowed", 2)
        self.refused((1, 3, [(0, 0, 0), (0, 0, 0)]), "allowed", 1)

    def test_several_amiss(self):
        for one in NO_WHOLES:
            for other in NO_WHOLES:
                self.refused((one, other, None), "notes", None)
                self.refused((one, 2, [other]), "notes", None)
                self.refused((2, one, [other]), "voices", None)
        self.refused((5, 5, ()), "notes", None)
        self.refused((4, 5, ()), "voices", None)

    def test_tuples_are_of_these_notes_and_voices(self):
        self.refused((2, 3, [(0, 0, 0), (0, 0)]), "allowed", 1)
        self.refused((2, 3, [(0, 0, 0), (0, 0, 2)]), "allowed", 1)
        self.assertEqual(Table(3, 3, [(0, 0, 0), (0, 0, 2)]).allowed(), [(0, 0, 0), (0, 0, 2)])


class Equal(unittest.TestCase):
    def test_equal_just_where_all_three_are(self):
        told = small_tables()
        parts = [(table.notes(), table.voices(), table.allowed()) for table in told]
        for one, left in zip(told, parts):
            for other, right in zip(told, parts):
                self.assertIs(one == other, left == right)
                self.assertIs(one != other, left != right)

    def test_empty_tables_of_unlike_kinds(self):
        self.assertFalse(Table(2, 2, []) == Table(3, 2, []))
        self.assertFalse(Table(2, 2, []) == Table(2, 3, []))
        self.assertTrue(Table(2, 2, []) == Table(2, 2, []))
        self.assertFalse(Table(2, 2, [(0, 1)]) == Table(3, 2, [(0, 1)]))

    def test_equal_to_nothing_else(self):
        class Alike:
            def __eq__(self, other):
                return True

            def notes(self):
                return 2

            def voices(self):
                return 2

            def allowed(self):
                return [(0, 1)]

        table = Table(2, 2, [(0, 1)])
        for other in ((2, 2, [(0, 1)]), [(0, 1)], "Table", None, True, 0, {}, Table, Alike()):
            self.assertIs(table == other, False)
            self.assertIs(table != other, True)


class Kept(unittest.TestCase):
    def test_the_list_handed_in_is_copied(self):
        told = [(1, 1), (0, 1)]
        table = Table(2, 2, told)
        self.assertEqual(told, [(1, 1), (0, 1)])
        told.append((0, 0))
        told[0] = None
        self.assertEqual(table.allowed(), [(0, 1), (1, 1)])

    def test_a_told_list_is_the_askers_own(self):
        table = Table(2, 2, [(1, 1), (0, 1)])
        told = table.allowed()
        told.clear()
        self.assertEqual(table.allowed(), [(0, 1), (1, 1)])
        told = loops(table)
        told.append(7)
        self.assertEqual(loops(table), [1])
        names = [1, 0]
        self.assertEqual(renamed(table, names).allowed(), [(0, 0), (1, 0)])
        self.assertEqual(names, [1, 0])


class Made(unittest.TestCase):
    def test_loops(self):
        for table in small_tables():
            told = [note for note in range(table.notes()) if (note,) * table.voices() in table.allowed()]
            self.assertEqual(loops(table=table), told)
        self.assertEqual(loops(Table(4, 3, [(3, 3, 3), (0, 0, 1), (1, 1, 1), (2, 2, 0)])), [1, 3])

    def test_turned(self):
        for table in small_tables():
            about = turned(table=table)
            self.assertEqual((about.notes(), about.voices()), (table.notes(), table.voices()))
            self.assertEqual(about.allowed(), sorted([chord[::-1] for chord in table.allowed()]))
            self.assertEqual(turned(about), table)
            for length in range(6 if table.notes() < 3 else 4):
                words = sorted([word[::-1] for word in all_words(table, length)])
                self.assertEqual(all_words(about, length), words)

    def test_renamed(self):
        for table in drawn("renamed", 3, 2, 4) + drawn("renamed", 3, 3, 2) + drawn("renamed", 2, 4, 2) + every(1, 2):
            for names in itertools.permutations(range(table.notes())):
                other = renamed(names=list(names), table=table)
                self.assertEqual((other.notes(), other.voices()), (table.notes(), table.voices()))
                for length in range(6):
                    words = sorted([[names[note] for note in word] for word in all_words(table, length)])
                    self.assertEqual(all_words(other, length), words)
        # Names that aren't their own way back: note 0 is called 1, and 1 is called 2.
        self.assertEqual(renamed(Table(3, 2, [(0, 1)]), [1, 2, 0]).allowed(), [(1, 2)])

    def test_both_of(self):
        told = every(2, 2)
        for one in told:
            for other in told:
                shared = both_of(one=one, other=other)
                self.assertEqual(shared.allowed(), [chord for chord in chords(2, 2)
                                                    if chord in one.allowed() and chord in other.allowed()])
                for length in range(5):
                    words = [word for word in all_words(one, length) if word in all_words(other, length)]
                    self.assertEqual(all_words(shared, length), words)
        one, other = drawn("both", 3, 3, 2)
        self.assertEqual((both_of(one, other).notes(), both_of(one, other).voices()), (3, 3))
        self.assertEqual(both_of(one, full_table(3, 3)), one)


class Refused(unittest.TestCase):
    def test_renamed_takes_all_notes(self):
        table = Table(3, 2, [(0, 1)])
        for names in ([], [0, 1], [0, 1, 2, 3], [0, 1, 1], [0, 1, 3], [1, 2, 3], [0, True, 2], [False, 1, 2],
                      [0, 1, "2"], [0, 1, None], [0, 1, []], [{}, 1, 2], [-1, 0, 1], (0, 1, 2), {0: 0, 1: 1, 2: 2},
                      "012", None, True, 3, b"012", {0, 1, 2}, [0, 1, 2, 2], object()):
            with self.assertRaises(NoWord) as caught:
                renamed(table, names)
            self.assertEqual(caught.exception.at, -1, names)

    def test_both_of_takes_like_tables(self):
        for one, other, part in ((Table(2, 2, []), Table(3, 2, []), "notes"),
                                 (Table(2, 2, []), Table(2, 3, []), "voices"),
                                 (Table(2, 2, []), Table(3, 3, []), "notes")):
            for left, right in ((one, other), (other, one)):
                with self.assertRaises(Unlike) as caught:
                    both_of(left, right)
                self.assertEqual(caught.exception.part, part)


if __name__ == "__main__":
    unittest.main()
