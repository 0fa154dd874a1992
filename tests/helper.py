"""What several tests need: many small things, and a second telling of points 2 and 3."""

import itertools


def nested(depth, inside):
    """A row in a row in a row ..; `depth` brackets around what is inside."""
    thing = inside
    for _ in range(depth):
        thing = [thing]
    return thing


def all_things(atoms, fields, most):
    """Every thing of a size of at most `most` of these atoms and fields; the order says nothing."""
    by_size = {1: list(atoms) + [[], {}]}
    for size in range(2, most + 1):
        by_size[size] = [
            thing
            for split in splits(size - 1)
            for parts in itertools.product(*[by_size[part] for part in split])
            for thing in holders(parts, fields)
        ]
    return [thing for size in range(1, most + 1) for thing in by_size[size]]


def splits(size):
    """All lists of numbers from 1 that come to `size` together."""
    if size == 0:
        return [[]]
    return [[first] + rest for first in range(1, size + 1) for rest in splits(size - first)]


def holders(parts, fields):
    """The row of these parts, and the records that have them in some fields."""
    yield list(parts)
    for chosen in itertools.combinations(fields, len(parts)):
        yield dict(zip(chosen, parts))


def plain_size(thing):
    if isinstance(thing, list):
        return 1 + sum(plain_size(part) for part in thing)
    if isinstance(thing, dict):
        return 1 + sum(plain_size(part) for part in thing.values())
    return 1


def plain_depth(thing):
    within = thing.values() if isinstance(thing, dict) else thing if isinstance(thing, list) else []
    return 1 + max([plain_depth(part) for part in within], default=0)


def plain_sort(thing):
    return [int, str, list, dict].index(type(thing))


def told(one, other):
    return (one > other) - (one < other)


def plain_compared(one, other):
    """The order of things, told as point 3 tells it, sentence by sentence."""
    if plain_size(one) != plain_size(other):
        return told(plain_size(one), plain_size(other))
    if plain_sort(one) != plain_sort(other):
        return told(plain_sort(one), plain_sort(other))
    if isinstance(one, int):
        if abs(one) != abs(other):
            return told(abs(one), abs(other))
        return told(other, one)
    if isinstance(one, str):
        return told((len(one), one), (len(other), other))
    if isinstance(one, list):
        for mine, yours in zip(one, other):
            if mine != yours:
                return plain_compared(mine, yours)
        return 0
    return plain_compared_records(one, other)


def plain_compared_records(one, other):
    ones = sorted(one, key=lambda field: (len(field), field))
    others = sorted(other, key=lambda field: (len(field), field))
    for mine, yours in zip(ones, others):
        if mine != yours:
            return plain_compared(mine, yours)
        if one[mine] != other[yours]:
            return plain_compared(one[mine], other[yours])
    return 0
