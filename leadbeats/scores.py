"""Scores: how the fitting tunes of a length go on, beat by beat."""

from leadbeats.lines import lines_of, ways_by_kind
from leadbeats.tails import Chart, all_ends, tail_of


class Score:
    """By each beat of tunes of n beats the beats of its line that come ahead of it, and the chart of that line."""

    def __init__(self, canon, table, n):
        ways = ways_by_kind(table)
        charts = {}
        self.table = table
        self.lines = {}
        for kind, beats in lines_of(canon, n):
            key = (kind, len(beats))
            if key not in charts:
                charts[key] = Chart(ways[kind], len(beats), {}, all_ends(ways[kind]))
            for place, beat in enumerate(beats):
                self.lines[beat] = (beats[:place], charts[key])

    def choices_behind(self, tune):
        """Tell the list of (note, tail, how many words its line then has) for the beat behind a tune's beginning."""
        before, chart = self.lines[len(tune)]
        return chart.choices(len(before), tail_of(self.table, [tune[beat] for beat in before]))
