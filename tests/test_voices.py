"""Points 9 and 10: the canon of several voices."""

import itertools
import unittest

from leadbeats.canons import Canon, canon_of
from leadbeats.errors import BadVoices
from tests.walks import GREAT, NO_WHOLES, leads, walk, within


def leads_all(numbers, voices):
    """Whether at the first moments each voice's beat is led to the next voice's one."""
    onward = leads(numbers, 200)
    for moment in range(12):
        beats = [pace * moment + entry for pace, entry in voices]
        if any(onward.get(one) != other for one, other in zip(beats, beats[1:])):
            return False
    return True


def best(voices, pace, entry):
    """The four numbers, within bounds, of the canon that leads the voices and the most beats; None where none does."""
    told = [(a, b, c, d) for a in range(1, pace) for c in range(a + 1, pace + 1)
            for b in range(entry + 1) for d in range(entry + 1) if leads_all((a, b, c, d), voices)]
    return max(told, key=lambda numbers: len(leads(numbers, 200)), default=None)


class Voices(unittest.TestCase):
    def check(self, voices, pace, entry):
        told = canon_of(voices)
        self.assertEqual(None if told is None else told.numbers(), best(voices, pace, entry), voices)

    def test_two_voices(self):
        for paces in itertools.product(range(1, 5), repeat=2):
            for entries in itertools.product(range(4), repeat=2):
                self.check(list(zip(paces, entries)), 4, 3)

    def test_three_voices(self):
        for paces in ((1, 2, 4), (2, 4, 8), (4, 6, 9), (1, 2, 3), (2, 3, 4), (4, 2, 1), (2, 2, 2), (1, 3, 9)):
            for entries in itertools.product(range(3), repeat=3):
                if paces[0] < paces[1]:
                    self.check(list(zip(paces, entries)), 6, 2)
                else:
                    self.assertIsNone(canon_of(list(zip(paces, entries))))

    def test_written_down(self):
        self.assertEqual(canon_of([(2, 9), (3, 13)]), Canon(2, 1, 3, 1))
        self.assertEqual(canon_of([(4, 9), (6, 13)]), Canon(2, 1, 3, 1))
        self.assertEqual(canon_of([(6, 1), (9, 20)]), Canon(2, 1, 3, 20))
        self.assertEqual(canon_of([(2, 20), (3, 1)]), Canon(2, 20, 3, 1))
        self.assertEqual(canon_of(voices=[(4, 0), (6, 0), (9, 0)]), Canon(2, 0, 3, 0))

    def test_up_to_six_voices(self):
        seen = set()
        for a, b, c, d in ((1, 0, 2, 1), (1, 40, 2, 3), (2, 3, 3, 5), (2, 90, 3, 7), (3, 7, 4, 0), (1, 0, 3, 2)):
            back = min(b // a, d // c)
            told = Canon(a, b - a * back, c, d - c * back)
            for entries in walk((a, b, c, d), 1500)[0]:
                for many in range(2, min(6, len(entries)) + 1):
                    seen.add((many, entries[0] < entries[1]))
                    voices = [(a ** (many - 1 - at) * c ** at, entries[at]) for at in range(many)]
                    self.assertEqual(canon_of(voices), told)
                    self.assertIsNone(canon_of(voices[::-1]))
                    self.check_changed(voices)
        # Rows that rise and rows that fall gave voices, of each number of them.
        self.assertEqual(len(seen), 10)

    def check_changed(self, voices):
        for at in range(2, len(voices)):
            pace, entry = voices[at]
            self.assertIsNone(canon_of(voices[:at] + [(pace, entry + 1)] + voices[at + 1:]))
            self.assertIsNone(canon_of(voices[:at] + [(pace + 1, entry)] + voices[at + 1:]))

    def test_six_voices_written_down(self):
        voices = [(32, 0), (48, 1), (72, 5), (108, 0), (162, 3), (243, 9)]
        self.assertIsNone(canon_of(voices))
        voices = [(2 ** (5 - at) * 3 ** at, 0) for at in range(6)]
        self.assertEqual(canon_of(voices), Canon(2, 0, 3, 0))
        voices = [(2 ** at, 2 ** at - 1) for at in range(6)]
        self.assertEqual(canon_of(voices), Canon(1, 0, 2, 1))

    def test_great(self):
        with within(5):
            self.assertEqual(canon_of([(4 * GREAT, 6 * GREAT + 1), (6 * GREAT, 9 * GREAT + 5)]),
                             Canon(2, 1, 3, 5))
            self.assertEqual(canon_of([(GREAT, 9 * GREAT), (GREAT + 1, 8 * GREAT)]),
                             Canon(GREAT, 2 * GREAT, GREAT + 1, GREAT - 7))
            self.assertIsNone(canon_of([(GREAT, 0), (3 * GREAT, 0), (9 * GREAT - 1, 0)]))

    def test_nothing_handed_in_is_changed(self):
        voices = [(4, 9), (6, 13)]
        canon_of(voices)
        self.assertEqual(voices, [(4, 9), (6, 13)])


class Refused(unittest.TestCase):
    def refused(self, voices, at):
        with self.assertRaises(BadVoices) as caught:
            canon_of(voices)
        self.assertEqual(caught.exception.at, at, voices)

    def test_no_list_of_so_many(self):
        for thing in NO_WHOLES + (7, ((1, 0), (2, 0)), {(1, 0): (2, 0)}, [(1, 0)], [(1, 0)] * 7, [None], [3] * 7):
            self.refused(thing, -1)

    def test_the_first_place_amiss(self):
        wrong = [(0, 0), (1, -1), (True, 0), (1, False), (1,), (1, 0, 0), [1, 0], ("1", 0), (1, None), ([], 0), (1, {})]
        for thing in wrong + list(NO_WHOLES) + [5]:
            for many in range(2, 7):
                for at in range(many):
                    voices = [(2 ** place, 0) for place in range(many)]
                    voices[at] = thing
                    self.refused(voices, at)
                    self.refused(voices[:at + 1] + [thing] * (many - at - 1), at)

    def test_also_where_no_canon_would_be(self):
        self.refused([(5, 0), (4, 0), (3, -1)], 2)
        self.refused([(5, 0), (4, 0), None, (3, -1)], 2)


if __name__ == "__main__":
    unittest.main()
