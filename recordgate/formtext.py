"""The texts of forms: written and read."""

from recordgate.errors import BadRow, Loop, NoForm
from recordgate.leanings import leans_on, named_in, reached
from recordgate.things import is_name
from recordgate.thingtext import is_number

MOST_FORMS = 24
MOST_WORDS = 8
MOST_PARTS = 4
MOST_THINGS = 4
MOST_FIELDS = 6
MOST_NAMES = 6


def forms_text(forms):
    """The text of forms."""
    return "\n".join([" ".join([name] + form_words(form)) for name, form in forms])


def form_words(form):
    """The words that a form is written with."""
    if form[0] == "number":
        return ["number", bound_text(form[1]), bound_text(form[2])]
    if form[0] == "row":
        return row_words(form[1])
    if form[0] == "record":
        return record_words(form[1], form[2])
    if form[0] in ("word", "all", "some", "one"):
        return [form[0]] + form[1]
    return list(form)


def bound_text(bound):
    """The text of a number or None."""
    return "-" if bound is None else str(bound)


def row_words(parts):
    """The words of a form of rows."""
    words = ["row"]
    for name, least, most in parts:
        words.extend([name, str(least), bound_text(most)])
    return words


def record_words(fields, is_open):
    """The words of a form of records."""
    words = ["record", "open" if is_open else "closed"]
    for field, must, name in fields:
        words.extend(["must" if must else "may", field, name])
    return words


def forms_of(text):
    """The forms of a text; refuses with BadRow, NoForm, Loop."""
    forms = []
    known = {}
    for row, line in enumerate(text.split("\n"), start=1):
        words = line.split(" ")
        form = form_of(words[1:])
        if form is None or not is_name(words[0]) or words[0] in known or row > MOST_FORMS:
            raise BadRow(row)
        known[words[0]] = True
        forms.append((words[0], form))
    refuse_unknown(forms, known)
    refuse_loops(forms)
    return forms


def refuse_unknown(forms, known):
    """Refuses with NoForm where a name stands that is not known."""
    for row, pair in enumerate(forms, start=1):
        for name in named_in(pair[1]):
            if name not in known:
                raise NoForm(row, name)


def refuse_loops(forms):
    """Refuses with Loop where the leanings of a form come back to it."""
    steps = dict([(name, leans_on(form)) for name, form in forms])
    for row, pair in enumerate(forms, start=1):
        if pair[0] in reached(steps[pair[0]], steps):
            raise Loop(row)


def form_of(words):
    """The form of the words behind its name, None where they are not those of one."""
    if not words:
        return None
    rest = words[1:]
    if words[0] == "any":
        return None if rest else tuple(words)
    if words[0] == "number":
        return number_form(rest)
    if words[0] == "word":
        return ("word", rest) if are_unlike_names(rest) and len(rest) <= MOST_WORDS else None
    if words[0] == "row":
        return row_form(rest)
    if words[0] == "record":
        return record_form(rest)
    if words[0] in ("all", "some", "one"):
        return (words[0], rest) if are_names(rest) and 1 <= len(rest) <= MOST_NAMES else None
    if words[0] == "not":
        return tuple(words) if are_names(rest) and len(rest) == 1 else None
    if words[0] == "look":
        return tuple(words) if are_names(rest) and len(rest) == 4 else None
    return None


def are_names(words):
    """Whether all words are names."""
    return all([is_name(word) for word in words])


def are_unlike_names(words):
    """Whether all words are names, and none stands twice."""
    return are_names(words) and all([words.count(word) == 1 for word in words])


def is_bound(word):
    """Whether a word is that of a number or None."""
    return word == "-" or is_number(word)


def bound_of(word):
    """The number of a word, or None."""
    return None if word == "-" else int(word)


def number_form(words):
    """The form of numbers of these words, None where there is none."""
    if len(words) != 2 or not is_bound(words[0]) or not is_bound(words[1]):
        return None
    low = bound_of(words[0])
    high = bound_of(words[1])
    if low is not None and high is not None and low > high:
        return None
    return ("number", low, high)


def in_threes(words):
    """The words, three in each tuple; None where some are left over."""
    if len(words) % 3:
        return None
    return [(words[k], words[k + 1], words[k + 2]) for k in range(0, len(words), 3)]


def row_form(words):
    """The form of rows of these words, None where there is none."""
    threes = in_threes(words)
    if threes is None or len(threes) > MOST_PARTS:
        return None
    if not all([is_part(name, least, most) for name, least, most in threes]):
        return None
    return ("row", [(name, int(least), bound_of(most)) for name, least, most in threes])


def is_part(name, least, most):
    """Whether these words are a part of a form of rows."""
    if not is_name(name) or not is_number(least) or not 0 <= int(least) <= MOST_THINGS:
        return False
    if most == "-":
        return True
    return is_number(most) and max(1, int(least)) <= int(most) <= MOST_THINGS


def record_form(words):
    """The form of records of these words, None where there is none."""
    threes = in_threes(words[1:])
    if not words or words[0] not in ("open", "closed") or threes is None or len(threes) > MOST_FIELDS:
        return None
    if not are_unlike_names([field for must, field, name in threes]):
        return None
    if not all([must in ("must", "may") and is_name(name) for must, field, name in threes]):
        return None
    return ("record", [(field, must == "must", name) for must, field, name in threes], words[0] == "open")
