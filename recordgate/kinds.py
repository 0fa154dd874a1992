"""The kinds into which forms divide all things."""

from recordgate.search import Search
from recordgate.things import copied


def kinds(forms):
    """All masks that things have, with the least thing of each: tuples (mask, thing), the lesser thing first."""
    search = Search(forms)
    while search.go_on():
        pass
    told = []
    known = {}
    for mask, thing in zip(search.thing_masks, search.things):
        # Things may differ just by being a word that a form of look names; that is no bit of theirs.
        mask = mask & search.masks.forms_bits
        if mask not in known:
            known[mask] = True
            told.append((mask, copied(thing)))
    return told
