"""What changes from one make of forms to the next."""

from recordgate.asking import outside
from recordgate.gate import bar, lets
from recordgate.leanings import renamed
from recordgate.things import word_key

# No name has a blank in it, so no name of one make is then that of the other.
OLD = "old "
NEW = "new "


def moved(old, new):
    """A tuple (name, word, gone, come) for each name that stands in old or in new, the lesser name first."""
    both = marked(old, OLD) + marked(new, NEW)
    known = dict(both)
    told = []
    for name in sorted(dict(old + new), key=word_key):
        if NEW + name not in known:
            told.append((name, "left", None, None))
        elif OLD + name not in known:
            told.append((name, "added", None, None))
        else:
            gone = outside(both, OLD + name, NEW + name)
            come = outside(both, NEW + name, OLD + name)
            told.append((name, word_of(gone, come), gone, come))
    return told


def marked(forms, mark):
    """The forms with a mark ahead of all their names."""
    names = dict([(name, mark + name) for name, form in forms])
    return [(names[name], renamed(form, names)) for name, form in forms]


def word_of(gone, come):
    """The word for a form of which this is gone and come."""
    if gone is None:
        return "alike" if come is None else "wider"
    return "narrower" if come is None else "other"


def lost(old, new, name, things):
    """Of the things those that the old form lets by and the new one bars: tuples (k, place, row)."""
    told = []
    for k, thing in enumerate(things):
        if lets(old, name, thing):
            barred = bar(new, name, thing)
            if barred is not None:
                told.append((k, barred[0], barred[1]))
    return told
