"""All forms of rows at once, as stations through which the things of a row lead.

A part (F, least, most) is a run of stations. First come `least` ones from each of which a thing that F
lets by leads on to the next. Then comes one at which such things stay, where most is None, or as many
ones that lead on as there may be more things; these need no thing to be left for the next.
A station is a bit, so all those which the things of a row so far can have led to are one number.
"""


class RowTable:
    """The stations of some forms of rows."""

    def __init__(self):
        self.width = 0
        self.begins = 0
        self.ends = []
        self.leading = {}
        self.staying = {}
        self.skipped = 0

    def add_form(self, bit, parts):
        """Takes in the form of this bit; its parts are tuples of the bit of F, least and most."""
        self.begins |= 1 << self.width
        for wanted, least, most in parts:
            for k in range(least):
                self.add_station(self.leading, wanted)
            for k in range(1 if most is None else most - least):
                self.skipped |= 1 << self.width
                self.add_station(self.staying if most is None else self.leading, wanted)
        self.ends.append((1 << self.width, bit))
        self.width += 1

    def add_station(self, stations, wanted):
        """One more station, for things that the form of the bit wanted lets by."""
        stations[wanted] = stations.get(wanted, 0) | 1 << self.width
        self.width += 1

    def first(self):
        """The stations of the empty row."""
        return self.skipping(self.begins)

    def ways(self, mask):
        """The stations that a thing of this mask leads on from, and those at which it stays."""
        leading = 0
        for wanted, stations in self.leading.items():
            if mask & wanted:
                leading |= stations
        staying = 0
        for wanted, stations in self.staying.items():
            if mask & wanted:
                staying |= stations
        return (leading, staying)

    def after(self, stations, ways):
        """The stations of a row with one more thing, which has these ways."""
        return self.skipping(((stations & ways[0]) << 1) | (stations & ways[1]))

    def skipping(self, stations):
        """The stations, and those that are come to from them without a thing."""
        more = (stations & self.skipped) << 1
        while more & ~stations:
            stations |= more
            more = (stations & self.skipped) << 1
        return stations

    def let_by(self, stations):
        """The bits of the forms that let by a row which has led to these stations."""
        bits = 0
        for end, bit in self.ends:
            if stations & end:
                bits |= bit
        return bits
