"""What several tests need: many small things, forms at random, and second tellings of some points."""

import itertools

from recordgate.formtext import forms_text


def nested(depth, inside):
    """A row in a row in a row ..; `depth` brackets around what is inside."""
    thing = inside
    for _ in range(depth):
        thing = [thing]
    return thing


def all_things(atoms, fields, most):
    """Every thing of a size of at most `most` of these atoms and fields; the order says nothing."""
    by_size = {1: list(atoms) + [[], {}]}
    for size in range(2, most + 1):
        by_size[size] = [
            thing
            for split in splits(size - 1)
            for parts in itertools.product(*[by_size[part] for part in split])
            for thing in holders(parts, fields)
        ]
    return [thing for size in range(1, most + 1) for thing in by_size[size]]


def splits(size):
    """All lists of numbers from 1 that come to `size` together."""
    if size == 0:
        return [[]]
    return [[first] + rest for first in range(1, size + 1) for rest in splits(size - first)]


def holders(parts, fields):
    """The row of these parts, and the records that have them in some fields."""
    yield list(parts)
    for chosen in itertools.combinations(fields, len(parts)):
        yield dict(zip(chosen, parts))


def plain_size(thing):
    if isinstance(thing, list):
        return 1 + sum(plain_size(part) for part in thing)
    if isinstance(thing, dict):
        return 1 + sum(plain_size(part) for part in thing.values())
    return 1


def plain_depth(thing):
    within = thing.values() if isinstance(thing, dict) else thing if isinstance(thing, list) else []
    return 1 + max([plain_depth(part) for part in within], default=0)


def plain_sort(thing):
    return [int, str, list, dict].index(type(thing))


def told(one, other):
    return (one > other) - (one < other)


def plain_compared(one, other):
    """The order of things, told as point 3 tells it, sentence by sentence."""
    if plain_size(one) != plain_size(other):
        return told(plain_size(one), plain_size(other))
    if plain_sort(one) != plain_sort(other):
        return told(plain_sort(one), plain_sort(other))
    if isinstance(one, int):
        if abs(one) != abs(other):
            return told(abs(one), abs(other))
        return told(other, one)
    if isinstance(one, str):
        return told((len(one), one), (len(other), other))
    if isinstance(one, list):
        for mine, yours in zip(one, other):
            if mine != yours:
                return plain_compared(mine, yours)
        return 0
    return plain_compared_records(one, other)


def plain_compared_records(one, other):
    ones = sorted(one, key=lambda field: (len(field), field))
    others = sorted(other, key=lambda field: (len(field), field))
    for mine, yours in zip(ones, others):
        if mine != yours:
            return plain_compared(mine, yours)
        if one[mine] != other[yours]:
            return plain_compared(one[mine], other[yours])
    return 0


def plain_lets(forms, name, thing):
    """What a form lets by, told as point 4 tells it, sort by sort."""
    form = dict(forms)[name]
    sort = form[0]
    if sort == "any":
        return True
    if sort == "number":
        low, high = form[1:]
        return type(thing) is int and (low is None or low <= thing) and (high is None or thing <= high)
    if sort == "word":
        return type(thing) is str and (not form[1] or thing in form[1])
    if sort == "row":
        return type(thing) is list and plain_cut(forms, form[1], thing)
    if sort == "record":
        return type(thing) is dict and plain_record(forms, form[1], form[2], thing)
    if sort == "look":
        field, word, here, else_where = form[1:]
        looked = type(thing) is dict and field in thing and type(thing[field]) is str and thing[field] == word
        return plain_lets(forms, here if looked else else_where, thing)
    count = sum(plain_lets(forms, other, thing) for other in ([form[1]] if sort == "not" else form[1]))
    return {"all": count == len(form[1]), "some": count > 0, "one": count == 1, "not": count == 0}[sort]


def plain_cut(forms, parts, things):
    """Whether the things can be cut into stretches for these parts: every first cut is tried."""
    if not parts:
        return not things
    name, least, most = parts[0]
    longest = len(things) if most is None else min(most, len(things))
    return any(
        all(plain_lets(forms, name, thing) for thing in things[:length]) and plain_cut(forms, parts[1:], things[length:])
        for length in range(least, longest + 1)
    )


def plain_record(forms, fields, is_open, record):
    told = [field for field, _, _ in fields]
    return (
        all(field in record for field, must, _ in fields if must)
        and all(plain_lets(forms, name, record[field]) for field, _, name in fields if field in record)
        and (is_open or all(field in told for field in record))
    )


def plain_mask(forms, thing):
    return sum(1 << k for k, (name, _) in enumerate(forms) if plain_lets(forms, name, thing))


def plain_bar(forms, name, thing):
    """The bar of a thing, told as point 7 tells it."""
    if plain_lets(forms, name, thing):
        return None
    form = dict(forms)[name]
    own = ([], 1 + [pair[0] for pair in forms].index(name))
    if form[0] == "all":
        return next(filter(None, (plain_bar(forms, other, thing) for other in form[1])))
    if form[0] == "row" and len(form[1]) == 1 and type(thing) is list:
        other, least, most = form[1][0]
        if least <= len(thing) and (most is None or len(thing) <= most):
            return next(further(k, plain_bar(forms, other, part))
                        for k, part in enumerate(thing) if plain_bar(forms, other, part))
    if form[0] == "record" and type(thing) is dict and all(field in thing for field, must, _ in form[1] if must):
        names = {field: other for field, _, other in form[1]}
        for field in sorted(thing, key=lambda word: (len(word), word)):
            if field not in names and not form[2]:
                return [field], own[1]
            if field in names and plain_bar(forms, names[field], thing[field]):
                return further(field, plain_bar(forms, names[field], thing[field]))
    return own


def further(part, found):
    return [part] + found[0], found[1]


def least_by_mask(forms, things):
    """A dict from each mask that one of the things has to the least of them, by plain means."""
    found = {}
    for thing in things:
        mask = plain_mask(forms, thing)
        if mask not in found or plain_compared(thing, found[mask]) < 0:
            found[mask] = thing
    return found


def plain_depth_of(forms, name):
    """The depth of a form, told as point 5 tells it."""
    form = dict(forms)[name]
    leanings = {"all": form[1:2], "some": form[1:2], "one": form[1:2], "not": [form[1:]], "look": [form[3:]]}
    return max([1 + plain_depth_of(forms, other) for names in leanings.get(form[0], []) for other in names], default=0)


def plain_renamed(forms, names):
    """The rows of the text of the forms with their names exchanged, told by where names stand (point 18)."""
    rows = []
    for line in forms_text(forms).split("\n"):
        words = line.split(" ")
        for k in [0] + name_places(words):
            words[k] = names[words[k]]
        rows.append(" ".join(words))
    return rows


def name_places(words):
    """Where the names of other forms stand among the words of a row."""
    places = list(range(len(words)))
    behind = {"row": places[2::3], "record": places[5::3], "look": places[4:],
              "all": places[2:], "some": places[2:], "one": places[2:], "not": places[2:]}
    return behind.get(words[1], [])


SORTS = "any number number word word row row row record record record all some one not look".split()
BOUNDS = [None, -2, -1, 0, 1, 2]


def random_forms(chance, count, words=("a", "b", "w"), fields=("a", "b", "g")):
    """So many forms at random, whose leanings don't come back, in any order of rows."""
    names = [chr(ord("a") + k) * (1 + k % 3) for k in range(count)]
    forms = []
    for k, name in enumerate(names):
        sort = chance.choice(SORTS if k else SORTS[:11])
        forms.append((name, random_form(chance, sort, names, names[:k], words, fields)))
    chance.shuffle(forms)
    return forms


def random_form(chance, sort, names, ahead, words, fields):
    if sort == "number":
        low, high = chance.choice(BOUNDS), chance.choice(BOUNDS)
        return (sort, high, low) if None not in (low, high) and low > high else (sort, low, high)
    if sort == "word":
        return sort, chance.sample(words, chance.randint(0, 2))
    if sort == "row":
        return sort, [random_part(chance, names) for _ in range(chance.choice([0, 1, 1, 2, 2, 3, 4]))]
    if sort == "record":
        told = chance.sample(fields, chance.randint(0, len(fields)))
        return sort, [(field, chance.random() < 0.5, chance.choice(names)) for field in told], chance.random() < 0.5
    if sort == "look":
        return sort, chance.choice(fields), chance.choice(words), chance.choice(ahead), chance.choice(ahead)
    if sort == "not":
        return sort, chance.choice(ahead)
    if sort == "any":
        return (sort,)
    return sort, [chance.choice(ahead) for _ in range(chance.randint(1, 3))]


def random_part(chance, names):
    least = chance.choice([0, 0, 0, 1, 1, 2, 4])
    return chance.choice(names), least, chance.choice([None] + list(range(max(1, least), 5)))


def holders_in(told):
    """All lists and dicts within what was told or handed in, tuples being gone through."""
    found = [told] if isinstance(told, (list, dict)) else []
    if isinstance(told, (list, tuple)):
        found += [holder for part in told for holder in holders_in(part)]
    if isinstance(told, dict):
        found += [holder for part in told.values() for holder in holders_in(part)]
    return found


def spoil(told):
    """Changes every list and dict within what was told."""
    for holder in holders_in(told):
        if isinstance(holder, list):
            holder.append("spoilt")
        else:
            holder["spoilt"] = "spoilt"
