"""What forms say of one another: which names stand in them, and which forms they lean on."""


def leans_on(form):
    """The names of the forms that a form leans on, in the order in which they stand."""
    if form[0] in ("all", "some", "one"):
        return list(form[1])
    if form[0] == "not":
        return [form[1]]
    if form[0] == "look":
        return [form[3], form[4]]
    return []


def named_in(form):
    """The names of forms that stand in a form, in the order in which they stand."""
    if form[0] == "row":
        return [part[0] for part in form[1]]
    if form[0] == "record":
        return [field[2] for field in form[1]]
    return leans_on(form)


def renamed(form, names):
    """The form with lists of its own, each name of a form in it exchanged for the one that the dict has for it."""
    sort = form[0]
    if sort == "row":
        return (sort, [(names[name], least, most) for name, least, most in form[1]])
    if sort == "record":
        return (sort, [(field, must, names[name]) for field, must, name in form[1]], form[2])
    if sort in ("all", "some", "one"):
        return (sort, [names[name] for name in form[1]])
    if sort == "not":
        return (sort, names[form[1]])
    if sort == "look":
        return (sort, form[1], form[2], names[form[3]], names[form[4]])
    return copied_form(form)


def copied_form(form):
    """The form once more, with no list in common with it."""
    return tuple([list(part) if isinstance(part, list) else part for part in form])


def reached(names, steps):
    """All names that are come to from these, themselves too; steps is a dict from names to lists of names."""
    found = {}
    waiting = list(names)
    while waiting:
        name = waiting.pop()
        if name not in found:
            found[name] = True
            waiting.extend(steps[name])
    return found


def needed(forms, names):
    """The forms that tell what those of these names let by, in their order."""
    found = reached(names, dict([(name, named_in(form)) for name, form in forms]))
    return [(name, form) for name, form in forms if name in found]


def depths_of(forms):
    """A dict from the names of forms to their depths, the lesser depth first."""
    depths = {}
    for depth in range(len(forms)):
        ripe = [name for name, form in forms if name not in depths and all_in(leans_on(form), depths)]
        for name in ripe:
            depths[name] = depth
        if len(depths) == len(forms):
            break
    return depths


def all_in(names, known):
    """Whether all these names are known."""
    return all([name in known for name in names])
