"""A search through all things, the lesser first, for those whose mask no thing before them has.

Of a row or record that is the least of its mask, each thing in it is the least of its own mask: a lesser
one in its place would make the whole a lesser one. So rows and records are made of what was found before.
The number of a thing in what was found tells its order; a row is told by the numbers of its things,
a record by tuples of the numbers of a field and of the thing there, and so they are ordered as they are.

Rows that are begun differ only by the stations they have led to, records by what their fields have done.
Of those that don't differ the least is kept: it stays the lesser one, whatever is put behind both.
"""

from recordgate.masks import Masks
from recordgate.things import free_word, own_key, word_key


class Agenda:
    """What is begun and waits for its size to come: for each key the least telling of it."""

    def __init__(self):
        self.least_sizes = {}
        self.waiting = {}

    def offer(self, key, size, telling):
        """Takes a telling in, unless there is a lesser one for its key."""
        if self.least_sizes.get(key, size) < size:
            return
        self.least_sizes[key] = size
        level = self.waiting.setdefault(size, {})
        if key not in level or telling < level[key]:
            level[key] = telling

    def take(self, size):
        """What waited for this size, the lesser first: tuples of a telling and a key."""
        level = self.waiting.pop(size, {})
        return sorted([(telling, key) for key, telling in level.items() if self.least_sizes[key] == size])


class RowSearch:
    """Rows that are begun, and what can be put behind them."""

    def __init__(self, table):
        self.table = table
        self.agenda = Agenda()
        self.agenda.offer(table.first(), 1, ())
        self.begun = []
        self.links = []
        self.known_ways = {}

    def take(self, size):
        """The rows of a size that lead to stations which no lesser row leads to."""
        taken = self.agenda.take(size)
        for numbers, stations in taken:
            for ways, number, more in self.links:
                self.agenda.offer(self.table.after(stations, ways), size + more, numbers + (number,))
            self.begun.append((stations, size, numbers))
        return taken

    def add(self, number, mask, more):
        """Puts the thing of this number, mask and size behind all rows."""
        ways = self.table.ways(mask)
        if ways in self.known_ways:
            return
        self.known_ways[ways] = True
        self.links.append((ways, number, more))
        for stations, size, numbers in self.begun:
            self.agenda.offer(self.table.after(stations, ways), size + more, numbers + (number,))

    def waited_sizes(self):
        """The sizes that are waited for."""
        return list(self.agenda.waiting)


class FieldStep:
    """One field, the one of number k: leads records on from the agenda ahead of it to the one behind it."""

    def __init__(self, table, field, k, agendas):
        self.table = table
        self.field = field
        self.k = k
        self.ahead = agendas[k]
        self.behind = agendas[k + 1]
        self.begun = []
        self.links = []
        self.known_doings = {}

    def lead(self, size):
        """Leads the records of a size on, with nothing in the field, and with each thing."""
        missing = self.table.missing(self.field)
        for entries, done in self.ahead.take(size):
            self.behind.offer(done | missing, size, entries)
            for doing, number, more in self.links:
                self.behind.offer(done | doing, size + more, entries + ((self.k, number),))
            self.begun.append((done, size, entries))

    def add(self, number, mask, more):
        """Puts the thing of this number, mask and size into the field of all records."""
        doing = self.table.there(self.field, mask)
        if doing in self.known_doings:
            return
        self.known_doings[doing] = True
        self.links.append((doing, number, more))
        for done, size, entries in self.begun:
            self.behind.offer(done | doing, size + more, entries + ((self.k, number),))


class RecordSearch:
    """Records that are begun: a step for each field that is told, and for one that no form tells."""

    def __init__(self, table):
        self.fields = sorted(list(table.rules) + [free_word(table.rules)], key=word_key)
        self.agendas = [Agenda() for k in range(len(self.fields) + 1)]
        self.agendas[0].offer(0, 1, ())
        self.steps = [FieldStep(table, field, k, self.agendas) for k, field in enumerate(self.fields)]

    def take(self, size):
        """The records of a size that have done what no lesser record has."""
        for step in self.steps:
            step.lead(size)
        return self.agendas[-1].take(size)

    def add(self, number, mask, more):
        """Puts the thing of this number, mask and size into each field."""
        for step in self.steps:
            step.add(number, mask, more)

    def waited_sizes(self):
        """The sizes that are waited for."""
        found = []
        for agenda in self.agendas:
            found.extend(list(agenda.waiting))
        return found


class Search:
    """The things that were found, the lesser first, and what is begun."""

    def __init__(self, forms):
        self.masks = Masks(forms)
        self.rows = RowSearch(self.masks.row_table)
        self.records = RecordSearch(self.masks.record_table)
        self.things = []
        self.thing_masks = []
        self.known_masks = {}

    def add(self, thing, mask):
        """Takes a thing in, unless a lesser one has its mask."""
        if mask not in self.known_masks:
            self.known_masks[mask] = True
            self.things.append(thing)
            self.thing_masks.append(mask)

    def go_on(self):
        """Finds the things of the next size, and tells whether there was one to be looked at."""
        sizes = self.rows.waited_sizes() + self.records.waited_sizes()
        if not sizes:
            return False
        size = min(sizes)
        before = len(self.things)
        if size == 1:
            self.add_atoms()
        for numbers, stations in self.rows.take(size):
            self.add([self.things[number] for number in numbers], self.masks.of_row(stations))
        for entries, done in self.records.take(size):
            self.add(self.record_of(entries), self.masks.of_record(done))
        for number in range(before, len(self.things)):
            self.rows.add(number, self.thing_masks[number], size)
            self.records.add(number, self.thing_masks[number], size)
        return True

    def add_atoms(self):
        """Finds the numbers and words."""
        for number in sorted(bounds_in(self.masks.ranges), key=own_key):
            self.add(number, self.masks.of_number(number))
        words = list(self.masks.word_bits)
        for word in sorted(words + [free_word(words)], key=own_key):
            self.add(word, self.masks.of_word(word))

    def record_of(self, entries):
        """The record of the numbers of its fields and things."""
        return dict([(self.records.fields[k], self.things[number]) for k, number in entries])


def bounds_in(ranges):
    """0 and the numbers at and beside the bounds: of the numbers of one mask the least is among them."""
    numbers = [0]
    for bit, low, high in ranges:
        if low is not None:
            numbers.extend([low - 1, low])
        if high is not None:
            numbers.extend([high, high + 1])
    return numbers
