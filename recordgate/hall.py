"""The hall: texts come in, and a text goes out."""

from recordgate.errors import NoForm
from recordgate.formtext import forms_of
from recordgate.gate import bar
from recordgate.thingtext import thing_of


def judged(text, name, thing_text):
    """What the form of that name says to a thing; refuses with BadRow, NoForm, Loop, then BadThing."""
    forms = forms_of(text)
    if name not in dict(forms):
        raise NoForm(0, name)
    barred = bar(forms, name, thing_of(thing_text))
    if barred is None:
        return "let by"
    place = place_text(barred[0])
    row = barred[1]
    return f"barred at {place} by row {row}"


def place_text(place):
    """The text of a place in a thing."""
    if not place:
        return "top"
    return ".".join([str(part) for part in place])
