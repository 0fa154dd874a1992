"""Samples: the small things that a form lets by, in order.

All things of one size are made, in order, of those of the sizes below it, each with its mask. A list of
things is told by the first of them and then by the rest, so lists that are made by the lesser first thing
first, and for each by the lesser rest first, come in order; and so do lists of fields with their things.
"""

from recordgate.leanings import needed
from recordgate.masks import Masks
from recordgate.things import copied, own_key, word_key


def samples(forms, name, atoms, fields, most):
    """All things of a size of at most `most`, made of these atoms and fields, that the form lets by, in order."""
    masks = Masks(needed(forms, [name]))
    wanted = masks.bits[name]
    atoms = sorted(each_once(atoms), key=own_key)
    fields = sorted(each_once(fields), key=word_key)
    told = []
    by_size = {}
    for size in range(1, most + 1):
        made = [(atom, masks.of_thing(atom, [])) for atom in atoms] if size == 1 else []
        made.extend(rows_of(masks, lists_of(by_size, size - 1)))
        made.extend(records_of(masks, entries_of(by_size, fields, size - 1)))
        by_size[size] = made
        # What was made is part of greater things, so what is told is a copy.
        told.extend([copied(thing) for thing, mask in made if mask & wanted])
    return told


def each_once(values):
    """The values of a list, without those that stood there before."""
    return list(dict([(value, True) for value in values]))


def rows_of(masks, lists):
    """The rows of these lists of things with masks, each with its mask."""
    made = []
    for held in lists:
        thing = [part[0] for part in held]
        made.append((thing, masks.of_thing(thing, [part[1] for part in held])))
    return made


def records_of(masks, lists):
    """The records of these lists of fields, each with a thing and its mask; each record with its mask."""
    made = []
    for entries in lists:
        thing = dict([(field, part[0]) for field, part in entries])
        made.append((thing, masks.of_thing(thing, [part[1] for field, part in entries])))
    return made


def lists_of(by_size, total):
    """All lists of things with their masks whose sizes come to a total, in order."""
    if total == 0:
        return [[]]
    found = []
    for size in range(1, total + 1):
        rests = lists_of(by_size, total - size)
        for part in by_size[size]:
            found.extend([[part] + rest for rest in rests])
    return found


def entries_of(by_size, fields, total):
    """All lists of some of the fields, each with a thing and its mask, the sizes coming to a total, in order."""
    if total == 0:
        return [[]]
    found = []
    for k, field in enumerate(fields):
        for size in range(1, total + 1):
            rests = entries_of(by_size, fields[k + 1:], total - size)
            for part in by_size[size]:
                found.extend([[(field, part)] + rest for rest in rests])
    return found
