"""What forms let by, and where and by which row they bar."""

from recordgate.leanings import needed
from recordgate.masks import Masks
from recordgate.things import keys_of, sizes_of, walked


def mask_of(forms, thing):
    """The mask of a thing: bit k tells whether the form at place k lets it by."""
    masks = Masks(forms)
    return masks.of_parts(walked(thing))[0] & masks.forms_bits


def lets(forms, name, thing):
    """Whether the form of that name lets a thing by."""
    masks = Masks(needed(forms, [name]))
    return masks.of_parts(walked(thing))[0] & masks.bits[name] != 0


def bar(forms, name, thing):
    """None where the form lets the thing by, else a tuple of the bar's place and row."""
    search = BarSearch(forms, name, thing)
    if not search.bars(name, 0):
        return None
    while search.leads_on():
        pass
    return (search.way, search.rows[search.form_name])


class BarSearch:
    """A bar that is followed into a thing: the way so far, and the form that bars what is there.

    `at` is the number of the thing there, in the order in which the whole is walked.
    """

    def __init__(self, forms, name, thing):
        self.by_name = dict(forms)
        self.rows = dict([(pair[0], k) for k, pair in enumerate(forms, start=1)])
        self.masks = Masks(needed(forms, [name]))
        self.parts = walked(thing)
        self.part_sizes = sizes_of(self.parts)
        self.part_masks = self.masks.of_parts(self.parts)
        self.form_name = name
        self.way = []
        self.at = 0

    def bars(self, name, at):
        """Whether the form bars the thing of that number."""
        return self.part_masks[at] & self.masks.bits[name] == 0

    def held(self):
        """What stands straight in the thing: tuples of its part of a place, and its number."""
        found = []
        at = self.at + 1
        for part in keys_of(self.parts[self.at][1]):
            found.append((part, at))
            at += self.part_sizes[at]
        return found

    def leads_on(self):
        """Whether the bar is that of another form, or further in; if so, it has been followed there."""
        form = self.by_name[self.form_name]
        if form[0] == "all":
            self.form_name = [name for name in form[1] if self.bars(name, self.at)][0]
            return True
        thing = self.parts[self.at][1]
        if form[0] == "row" and len(form[1]) == 1 and isinstance(thing, list):
            return self.leads_into_row(form[1][0], len(thing))
        if form[0] == "record" and isinstance(thing, dict):
            return self.leads_into_record(form, thing)
        return False

    def leads_into_row(self, only, count):
        """As leads_on, of a row of so many things and the form's only part."""
        if count < only[1] or only[2] is not None and count > only[2]:
            return False
        for part, at in self.held():
            if self.bars(only[0], at):
                return self.follow(part, at, only[0])
        return False

    def leads_into_record(self, form, record):
        """As leads_on, of a record and a form of records."""
        if [field for field, must, name in form[1] if must and field not in record]:
            return False
        names = dict([(field, name) for field, must, name in form[1]])
        for field, at in self.held():
            if field in names and self.bars(names[field], at):
                return self.follow(field, at, names[field])
            if field not in names and not form[2]:
                # The bar ends here: it is at the field, but it is the record's own form that bars.
                self.way.append(field)
                return False
        return False

    def follow(self, part, at, name):
        """Goes one step further in."""
        self.way.append(part)
        self.at = at
        self.form_name = name
        return True
