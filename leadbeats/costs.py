"""Costs: the cheapest words.

What notes cost at a place is a FARE, a tuple of tuples (note, cost); a note that it lacks may not stand there.
"""


class Costs:
    """The least costs of words, worked out from their ends; ends that several words share are worked out once.

    Each end that was met has a number: by it stands what the end costs, at least, behind each tail.
    """

    def __init__(self, ways):
        self.ways = ways
        self.least = [{tail: 0 for tail in ways}]
        self.ends = {}

    def one_ahead(self, end, fare):
        """Tell the number of the end that has a place more ahead of an end."""
        if (end, fare) not in self.ends:
            self.ends[(end, fare)] = len(self.least)
            self.least.append(costs_ahead(self.ways, self.least[end], dict(fare)))
        return self.ends[(end, fare)]

    def ends_of(self, fares):
        """Tell the numbers of all ends of words by the fares of their places, from the empty one on."""
        told = [0]
        for fare in reversed(fares):
            told.append(self.one_ahead(told[-1], fare))
        return told

    def costs_of_ends(self, fares):
        """Tell the least costs of words by the fares of just the last places, none of them, one and so on to all.

        They are None where there is no word.
        """
        return [self.least[end].get(()) for end in self.ends_of(fares)]

    def least_cost(self, fares):
        """Tell the least cost of a word by the fares of its places, None where there is no word."""
        return self.costs_of_ends(fares)[-1]

    def cheapest_word(self, fares):
        """Tell the first word of the least cost by the fares of its places; there has to be one."""
        ends = self.ends_of(fares)
        told = []
        tail = ()
        for fare, end in zip(fares, ends[-2::-1]):
            note, tail = cheapest(self.ways[tail], self.least[end], dict(fare))
            told.append(note)
        return told


def costs_ahead(ways, later, worth):
    """Tell by tails the least costs with one note more; tails from which no word goes on are left out."""
    told = {}
    for tail in ways:
        costs = [later[behind] + worth[note] for note, behind in ways[tail] if note in worth and behind in later]
        if len(costs) > 0:
            told[tail] = min(costs)
    return told


def cheapest(going, later, worth):
    """Tell the first of the ways (note, tail behind it) that cost least."""
    costs = [(later[behind] + worth[note], note, behind) for note, behind in going
             if note in worth and behind in later]
    cost, note, behind = min(costs)
    return (note, behind)


def change_fares(table, notes):
    """Tell the fares by which a word costs as many as there are places at which it differs from a list of notes."""
    tones = list(range(table.notes()))
    fares = [tuple([(note, 0 if note == wanted else 1) for note in tones]) for wanted in tones]
    return [fares[note] for note in notes]


def price_fares(prices, length, known):
    """Tell the fares of words of a length with known notes, a dict by places, by what each note costs."""
    fare = tuple(enumerate(prices))
    return [((known[place], prices[known[place]]),) if place in known else fare for place in range(length)]
