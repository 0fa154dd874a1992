"""Things: their names, their size and their order.

Things that the program told may be far deeper than those which are handed in,
so nothing here calls itself for what lies within a thing.
"""

LETTERS = "abcdefghijklmnopqrstuvwxyz"
LONGEST_NAME = 8


def is_name(text):
    """Whether a text is a name."""
    if not 1 <= len(text) <= LONGEST_NAME:
        return False
    return all([sign in LETTERS for sign in text])


def word_key(word):
    """What Python orders as the words are ordered."""
    return (len(word), word)


def word_after(word):
    """The least word that is greater than a word."""
    kept = word.rstrip("z")
    if not kept:
        return "a" * (len(word) + 1)
    return kept[:-1] + LETTERS[LETTERS.index(kept[-1]) + 1] + "a" * (len(word) - len(kept))


def free_word(taken):
    """The least word that is not among those taken."""
    word = "a"
    while word in taken:
        word = word_after(word)
    return word


def keys_of(holder):
    """The parts of places that lead straight into a row or record, in order."""
    if isinstance(holder, list):
        return list(range(len(holder)))
    return sorted(holder, key=word_key)


def parts_of(thing):
    """What a thing holds, in order: tuples of a field (in a row the empty text) and a thing."""
    if isinstance(thing, list):
        return [("", part) for part in thing]
    if isinstance(thing, dict):
        return [(field, thing[field]) for field in keys_of(thing)]
    return []


def copied(thing):
    """The thing once more, with no row or record in common with it."""
    holder = [thing]
    waiting = [holder]
    while waiting:
        part = waiting.pop()
        for key in keys_of(part):
            if isinstance(part[key], list):
                part[key] = list(part[key])
                waiting.append(part[key])
            elif isinstance(part[key], dict):
                part[key] = dict(part[key])
                waiting.append(part[key])
    return holder[0]


def walked(thing):
    """The thing and all things within it, as in parts_of, each ahead of what it holds."""
    found = []
    waiting = [("", thing)]
    while waiting:
        part = waiting.pop()
        found.append(part)
        waiting.extend(list(reversed(parts_of(part[1]))))
    return found


def size_of(thing):
    """The size of a thing."""
    return len(walked(thing))


def held_by(thing):
    """How many things stand straight in a thing."""
    if isinstance(thing, (list, dict)):
        return len(thing)
    return 0


def sizes_of(parts):
    """The sizes of the things that were walked, each at its place."""
    sizes = []
    # From the end on, what a thing holds has its sizes told ahead of the thing itself.
    waiting = []
    for part in reversed(parts):
        size = 1
        for held in range(held_by(part[1])):
            size += waiting.pop()
        waiting.append(size)
        sizes.append(size)
    return list(reversed(sizes))


def own_key(thing):
    """What orders things of one size as far as can be told without what they hold."""
    if isinstance(thing, int):
        return (0, abs(thing), 1 if thing < 0 else 0)
    if isinstance(thing, str):
        return (1, word_key(thing))
    if isinstance(thing, list):
        return (2,)
    return (3,)


def order_key(thing):
    """A list that Python orders as the things are ordered.

    Like things have like lists, and of unlike things neither has the other's list as its beginning,
    since the sizes in it tell where a row or record ends. So the first unlike place decides.
    """
    parts = walked(thing)
    return [(word_key(part[0]), size) + own_key(part[1]) for part, size in zip(parts, sizes_of(parts))]


def compared(one, other):
    """-1, 0 or 1, as the one thing is less than the other, alike or greater."""
    one_key = order_key(one)
    other_key = order_key(other)
    if one_key == other_key:
        return 0
    return -1 if one_key < other_key else 1
