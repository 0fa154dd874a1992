"""Masks of things, told from the bottom up: a thing's mask from the masks of what it holds.

Behind the bits of the forms a mask has one for each word of the forms of look, which tells
whether the thing is that word. So all that forms say of a thing's holder is told by its mask.
"""

from recordgate.leanings import depths_of
from recordgate.recordtable import RecordTable
from recordgate.rowtable import RowTable
from recordgate.things import held_by, keys_of


class Masks:
    """Forms, made ready for telling masks."""

    def __init__(self, forms):
        self.bits = dict([(pair[0], 1 << k) for k, pair in enumerate(forms)])
        self.forms_bits = (1 << len(forms)) - 1
        self.on_all = 0
        self.on_words = 0
        self.word_bits = {}
        self.looked = {}
        self.ranges = []
        self.row_table = RowTable()
        self.record_table = RecordTable()
        self.leanings = []
        by_name = dict(forms)
        for name in depths_of(forms):
            self.add_form(self.bits[name], by_name[name])

    def add_form(self, bit, form):
        """Takes in the form of this bit, behind those that it leans on."""
        sort = form[0]
        if sort == "any":
            self.on_all |= bit
        elif sort == "number":
            self.ranges.append((bit, form[1], form[2]))
        elif sort == "word":
            self.add_words(bit, form[1])
        elif sort == "row":
            self.row_table.add_form(bit, [(self.bits[name], least, most) for name, least, most in form[1]])
        elif sort == "record":
            self.record_table.add_form(bit, [(field, must, self.bits[name]) for field, must, name in form[1]], form[2])
        else:
            self.add_leaning(bit, form)

    def add_words(self, bit, words):
        """Takes in the form of words of this bit."""
        if not words:
            self.on_words |= bit
        for word in words:
            self.word_bits[word] = self.word_bits.get(word, 0) | bit

    def add_leaning(self, bit, form):
        """Takes in the form of this bit, which leans on others."""
        sort = form[0]
        if sort == "look":
            self.record_table.add_look(bit, form[1], self.looked_bit(form[2]))
            self.leanings.append((sort, bit, self.bits[form[3]], self.bits[form[4]]))
        elif sort == "not":
            self.leanings.append((sort, bit, self.bits[form[1]], 0))
        else:
            self.leanings.append((sort, bit, self.joined_bits(form[1]), self.doubled_bits(form[1])))

    def joined_bits(self, names):
        """The bits of these forms."""
        bits = 0
        for name in names:
            bits |= self.bits[name]
        return bits

    def doubled_bits(self, names):
        """The bits of those of these forms whose names stand more than once."""
        return self.joined_bits([name for name in names if names.count(name) > 1])

    def looked_bit(self, word):
        """The bit that tells whether a thing is this word, which a form of look names."""
        if word not in self.looked:
            bit = (self.forms_bits + 1) << len(self.looked)
            self.looked[word] = bit
            self.word_bits[word] = self.word_bits.get(word, 0) | bit
        return self.looked[word]

    def of_number(self, number):
        """The mask of a number."""
        mask = self.on_all
        for bit, low, high in self.ranges:
            if (low is None or low <= number) and (high is None or number <= high):
                mask |= bit
        return self.leaned(mask, 0)

    def of_word(self, word):
        """The mask of a word."""
        return self.leaned(self.on_all | self.on_words | self.word_bits.get(word, 0), 0)

    def of_row(self, stations):
        """The mask of a row whose things have led to these stations."""
        return self.leaned(self.on_all | self.row_table.let_by(stations), 0)

    def of_record(self, done):
        """The mask of a record whose fields have done this."""
        return self.leaned(self.on_all | self.record_table.kept & ~done, done)

    def leaned(self, mask, done):
        """The mask with the bits of the forms that lean on others."""
        for sort, bit, first, second in self.leanings:
            if sort == "all":
                passes_by = mask & first == first
            elif sort == "some":
                passes_by = mask & first != 0
            elif sort == "one":
                alone = mask & first
                passes_by = alone != 0 and alone & (alone - 1) == 0 and mask & second == 0
            elif sort == "not":
                passes_by = mask & first == 0
            else:
                passes_by = mask & (first if done & bit else second) != 0
            if passes_by:
                mask |= bit
        return mask

    def of_thing(self, thing, held):
        """The mask of a thing; held are the masks of what it holds, in order."""
        if isinstance(thing, int):
            return self.of_number(thing)
        if isinstance(thing, str):
            return self.of_word(thing)
        if isinstance(thing, dict):
            return self.of_record(self.record_table.done_by(dict(zip(keys_of(thing), held))))
        stations = self.row_table.first()
        for mask in held:
            stations = self.row_table.after(stations, self.row_table.ways(mask))
        return self.of_row(stations)

    def of_parts(self, parts):
        """The masks of the things that were walked, each at its place."""
        masks = []
        # From the end on, what a thing holds has its masks told ahead of the thing itself.
        waiting = []
        for part in reversed(parts):
            held = [waiting.pop() for k in range(held_by(part[1]))]
            mask = self.of_thing(part[1], held)
            waiting.append(mask)
            masks.append(mask)
        return list(reversed(masks))
