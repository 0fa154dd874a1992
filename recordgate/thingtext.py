"""The texts of things: written and read."""

from recordgate.errors import BadThing
from recordgate.things import LETTERS, is_name, parts_of, size_of, word_key

FIGURES = "0123456789"
MOST_FIGURES = 60
LARGEST = 100
DEEPEST = 20


def thing_text(thing):
    """The text of a thing."""
    pieces = []
    # A word is its own text, so pieces of text can wait among the things.
    waiting = [thing]
    while waiting:
        part = waiting.pop()
        if isinstance(part, str):
            pieces.append(part)
        elif isinstance(part, int):
            pieces.append(str(part))
        else:
            waiting.extend(list(reversed(spread(part))))
    return "".join(pieces)


def spread(holder):
    """A row or record as a list of the things in it and of the pieces of text around them."""
    has_fields = isinstance(holder, dict)
    pieces = []
    for field, thing in parts_of(holder):
        if pieces:
            pieces.append(", ")
        if has_fields:
            pieces.append(field + ": ")
        pieces.append(thing)
    if has_fields:
        return ["{"] + pieces + ["}"]
    return ["["] + pieces + ["]"]


def is_number(text):
    """Whether a text is that of a number within the bounds."""
    figures = text[1:] if text.startswith("-") else text
    # The length is looked at first: Python does not read numbers of some thousand figures.
    if not 1 <= len(figures) <= MOST_FIGURES:
        return False
    if not all([sign in FIGURES for sign in figures]):
        return False
    return str(int(text)) == text


class Reader:
    """A text and the place up to which it has been read."""

    def __init__(self, text):
        self.text = text
        self.place = 0

    def passes(self, piece):
        """Whether the piece comes next; if so, it has been read."""
        if not self.text.startswith(piece, self.place):
            return False
        self.place += len(piece)
        return True

    def stretch(self, signs):
        """Reads on as long as there are such signs, and tells what was read."""
        begin = self.place
        while self.place < len(self.text) and self.text[self.place] in signs:
            self.place += 1
        return self.text[begin:self.place]

    def ended(self):
        """Whether all has been read."""
        return self.place == len(self.text)


def thing_of(text):
    """The thing of a text; refuses with BadThing."""
    reader = Reader(text)
    thing = read_thing(reader, 1)
    if not reader.ended():
        raise BadThing("something stands behind the thing")
    if size_of(thing) > LARGEST:
        raise BadThing("the thing is too large")
    return thing


def read_thing(reader, level):
    """The thing that comes next; the whole is at level 1."""
    # This bounds how deep the readers call one another, too.
    if level > DEEPEST:
        raise BadThing("the thing is too deep")
    if reader.passes("["):
        return read_row(reader, level)
    if reader.passes("{"):
        return read_record(reader, level)
    return read_atom(reader)


def read_atom(reader):
    """The number or word that comes next."""
    text = reader.stretch(LETTERS + FIGURES + "-")
    if is_name(text):
        return text
    if is_number(text):
        return int(text)
    raise BadThing("neither a number nor a word")


def read_row(reader, level):
    """The row whose opening bracket has been read."""
    row = []
    if reader.passes("]"):
        return row
    row.append(read_thing(reader, level + 1))
    while reader.passes(", "):
        row.append(read_thing(reader, level + 1))
    must_pass(reader, "]")
    return row


def read_record(reader, level):
    """The record whose opening bracket has been read."""
    record = {}
    if reader.passes("}"):
        return record
    field = read_field(reader, "")
    record[field] = read_thing(reader, level + 1)
    while reader.passes(", "):
        field = read_field(reader, field)
        record[field] = read_thing(reader, level + 1)
    must_pass(reader, "}")
    return record


def read_field(reader, last):
    """The field that comes next, with its colon; it must be greater than the last one."""
    field = reader.stretch(LETTERS)
    if not is_name(field):
        raise BadThing("no field")
    if word_key(field) <= word_key(last):
        raise BadThing("a field out of order, or twice")
    must_pass(reader, ": ")
    return field


def must_pass(reader, piece):
    """Reads the piece, which must come next."""
    if not reader.passes(piece):
        raise BadThing("a sign is missing")
