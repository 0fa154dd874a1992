"""What can be asked of forms, and forms made of them."""

from recordgate.leanings import copied_form, needed
from recordgate.search import Search
from recordgate.things import copied, free_word


def least(forms, name):
    """The least thing that a form lets by, None where it lets by none."""
    return least_with(forms, [name], lambda held: held[0])


def outside(forms, one, other):
    """The least thing that the form one lets by and the form other does not, None where there is none."""
    return least_with(forms, [one, other], lambda held: held[0] and not held[1])


def unlike(forms, one, other):
    """The least thing that just one of two forms lets by, None where there is none."""
    return least_with(forms, [one, other], lambda held: held[0] != held[1])


def least_with(forms, names, is_wanted):
    """The least thing for which is_wanted holds of the list that tells which of the named forms let it by."""
    search = Search(needed(forms, names))
    looked_at = 0
    while search.go_on():
        for number in range(looked_at, len(search.things)):
            mask = search.thing_masks[number]
            if is_wanted([mask & search.masks.bits[name] != 0 for name in names]):
                return copied(search.things[number])
        looked_at = len(search.things)
    return None


def met(forms, one, other):
    """A new name and the forms with one more, of that name: what both forms let by."""
    return with_one_more(forms, ("all", [one, other]))


def joined(forms, one, other):
    """A new name and the forms with one more, of that name: what at least one of two forms lets by."""
    return with_one_more(forms, ("some", [one, other]))


def turned(forms, one):
    """A new name and the forms with one more, of that name: what a form does not let by."""
    return with_one_more(forms, ("not", one))


def with_one_more(forms, form):
    """A tuple of the least word that names none of the forms, and of these with one more of that name."""
    name = free_word([pair[0] for pair in forms])
    return (name, [(old, copied_form(old_form)) for old, old_form in forms] + [(name, form)])
