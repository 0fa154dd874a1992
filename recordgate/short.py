"""Texts made short: of forms that are alike just one is kept."""

from recordgate.asking import unlike
from recordgate.gate import mask_of
from recordgate.leanings import depths_of, renamed


def depth(forms, name):
    """The depth of a form: 0 where it leans on none, else one more than the greatest of those it leans on."""
    return depths_of(forms)[name]


def short(forms):
    """The forms that are kept, and for each form handed in a tuple of its name and its kept name."""
    kept_names = kept_names_of(forms)
    kept = [(name, renamed(form, kept_names)) for name, form in forms if kept_names[name] == name]
    return (kept, [(name, kept_names[name]) for name, form in forms])


def kept_names_of(forms):
    """A dict from the name of each form to that of the kept form which is like it."""
    depths = depths_of(forms)
    kept_names = {}
    for group in alike_groups(forms):
        names = [forms[k][0] for k in group]
        # Of several that are least, min tells the first.
        kept = min(names, key=lambda name: depths[name])
        for name in names:
            kept_names[name] = kept
    return kept_names


def alike_groups(forms):
    """Lists of the places of forms that are alike, in the order of the forms.

    The kinds of all forms together can be far too many to be gone through. So two forms at a time are looked
    at, and what tells two of them apart is kept as its mask, which tells apart most others without a search.
    """
    groups = []
    masks = []
    for k, pair in enumerate(forms):
        group = group_near(groups, masks, k)
        if not group:
            groups.append([k])
            continue
        thing = unlike(forms, forms[group[0]][0], pair[0])
        if thing is None:
            group.append(k)
        else:
            groups.append([k])
            masks.append(mask_of(forms, thing))
    return groups


def group_near(groups, masks, k):
    """The group that none of the masks tells apart from the form at place k, an empty one where there is none.

    There is at most one, since of any two groups one of the masks tells that they are unlike.
    """
    for group in groups:
        if not [mask for mask in masks if bit_of(mask, k) != bit_of(mask, group[0])]:
            return group
    return []


def bit_of(mask, k):
    """The bit of a mask for the form at place k."""
    return mask >> k & 1
