"""Points 5 and 14: the depths of forms, and texts made short."""

import inspect
import itertools
import random
import unittest

from recordgate.asking import unlike
from recordgate.formtext import forms_of, forms_text
from recordgate.gate import lets
from recordgate.kinds import kinds
from recordgate.short import depth, short
from tests.helper import all_things, holders_in, plain_depth_of, plain_lets, plain_renamed, random_forms

LETTERS = "abcdefghijklmnopqrstuvwx"
ANY = ("any", ("any",))
NONE = ("none", ("not", "any"))
NUMBER = ("n", ("number", 1, 5))
WORD = ("w", ("word", ["x", "y"]))


class DepthTest(unittest.TestCase):
    def check(self, forms, **expected):
        for order in (forms, forms[::-1], forms[1:] + forms[:1]):
            for name, number in expected.items():
                told = depth(order, name)
                self.assertEqual((told, type(told)), (number, int), (order, name))

    def test_arguments(self):
        self.assertEqual(list(inspect.signature(depth).parameters), ["forms", "name"])

    def test_each_sort(self):
        forms = [
            ("any", ("any",)), ("n", ("number", None, None)), ("w", ("word", [])), ("row", ("row", [("no", 0, None)])),
            ("rec", ("record", [("f", True, "no")], True)), ("all", ("all", ["any"])), ("some", ("some", ["n"])),
            ("one", ("one", ["w"])), ("no", ("not", "row")), ("look", ("look", "f", "w", "rec", "any")),
        ]
        self.check(forms, any=0, n=0, w=0, row=0, rec=0, all=1, some=1, one=1, no=1, look=1)

    def test_one_form(self):
        for form in (("any",), ("number", 0, 1), ("word", ["a"]), ("row", []), ("row", [("a", 1, 4)] * 4),
                     ("record", [], False), ("record", [("a", True, "a"), ("b", False, "a")], True)):
            self.check([("a", form)], a=0)

    def test_leanings_of_unlike_depth(self):
        for sort in ("all", "some", "one"):
            forms = [ANY, ("b", ("not", "any")), ("c", ("not", "b")), ("d", (sort, ["any", "c", "b"])),
                     ("e", (sort, ["c", "d"])), ("f", (sort, ["any", "b"])), ("g", (sort, ["e", "f", "any", "b", "c", "d"]))]
            self.check(forms, any=0, b=1, c=2, d=3, e=4, f=2, g=5)

    def test_both_forms_of_look(self):
        forms = [ANY, ("b", ("not", "any")), ("c", ("not", "b")), ("d", ("look", "c", "c", "any", "c")),
                 ("e", ("look", "d", "d", "b", "any")), ("f", ("look", "d", "d", "any", "any"))]
        self.check(forms, any=0, b=1, c=2, d=3, e=2, f=1)

    def test_the_same_one_twice(self):
        for sort in ("all", "some", "one"):
            forms = [ANY, ("b", (sort, ["any"] * 6)), ("c", (sort, ["b", "any", "b"])), ("d", ("look", "x", "x", "c", "c"))]
            self.check(forms, any=0, b=1, c=2, d=3)

    def test_words_and_fields_are_no_leanings(self):
        forms = [ANY, ("b", ("not", "any")), ("c", ("word", ["b", "any", "c"])), ("d", ("look", "b", "b", "any", "any")),
                 ("e", ("record", [("b", True, "any")], True))]
        self.check(forms, any=0, b=1, c=0, d=1, e=0)

    def test_by_way_of_rows_and_records(self):
        forms = [
            ("tree", ("some", ["leaf", "fork"])), ("leaf", ("number", 0, 9)), ("fork", ("row", [("tree", 2, 2)])),
            ("own", ("row", [("own", 0, None), ("top", 1, 1)])), ("rec", ("record", [("own", False, "rec")], False)),
            ("top", ("all", ["tree", "bar"])), ("bar", ("not", "tree")),
        ]
        self.check(forms, tree=1, leaf=0, fork=0, own=0, rec=0, bar=2, top=3)

    def test_chains_in_any_order_of_rows(self):
        chance = random.Random(41)
        links = [lambda name: ("not", name), lambda name: ("all", [name, "a"]), lambda name: ("some", ["a", name, name]),
                 lambda name: ("one", [name]), lambda name: ("look", "f", "f", name, "a"), lambda name: ("look", "f", "f", "a", name)]
        for count in (2, 3, 12, 23, 24):
            forms = [("a", ("word", []))]
            for k in range(1, count):
                forms.append((LETTERS[k], chance.choice(links)(LETTERS[k - 1])))
            for order in (forms, forms[::-1], chance.sample(forms, count)):
                self.assertEqual([depth(order, LETTERS[k]) for k in range(count)], list(range(count)))

    def test_forms_at_random(self):
        chance = random.Random(42)
        depths = []
        for _ in range(60):
            forms = random_forms(chance, chance.randint(1, 24))
            for name, _ in forms:
                depths.append(depth(forms, name))
                self.assertEqual(depths[-1], plain_depth_of(forms, name))
        self.assertGreater(max(depths), 3)


def plain_short(forms):
    """Point 14, sentence by sentence, by the kinds of all forms."""
    masks = [mask for mask, _ in kinds(forms)]
    marks = {name: [mask >> k & 1 for mask in masks] for k, (name, _) in enumerate(forms)}
    names = {}
    for name, _ in forms:
        alike = [other for other, _ in forms if marks[other] == marks[name]]
        least = min(plain_depth_of(forms, other) for other in alike)
        names[name] = next(other for other in alike if plain_depth_of(forms, other) == least)
    rows = [row for (name, _), row in zip(forms, plain_renamed(forms, names)) if names[name] == name]
    return forms_of("\n".join(rows)), [(name, names[name]) for name, _ in forms]


class ShortTest(unittest.TestCase):
    def check(self, forms, expected=None):
        """What short tells, after a look at all that holds of it."""
        told = short(forms)
        self.assertEqual([type(told), type(told[0]), type(told[1])], [tuple, list, list])
        kept, names = told
        self.assertEqual([name for name, _ in names], [name for name, _ in forms])
        self.assertEqual([type(pair) for pair in kept + names], [tuple] * len(kept + names))
        self.assertEqual(forms_of(forms_text(kept)), kept)
        places = [[name for name, _ in forms].index(name) for name, _ in kept]
        self.assertEqual(places, sorted(set(places)))
        self.assertEqual({name for name, _ in kept}, {name for _, name in names})
        for one, other in itertools.combinations([name for name, _ in kept], 2):
            self.assertIsNotNone(unlike(kept, one, other), (forms, one, other))
        if expected is not None:
            self.assertEqual(dict(names), expected, forms)
        return told

    def check_lets(self, forms, things):
        """The kept forms let by what the forms did."""
        kept, names = short(forms)
        for thing in things:
            for name, kept_name in names:
                expected = plain_lets(forms, name, thing)
                self.assertIs(lets(forms, name, thing), expected)
                self.assertIs(lets(kept, kept_name, thing), expected, (forms, name, thing))

    def test_arguments(self):
        self.assertEqual(list(inspect.signature(short).parameters), ["forms"])

    def test_one_form(self):
        for form in (("any",), ("number", None, 3), ("word", ["a"]), ("row", [("a", 0, 1)]), ("record", [("a", True, "a")], True)):
            self.assertEqual(self.check([("a", form)]), ([("a", form)], [("a", "a")]))

    def test_none_is_like_another(self):
        forms = [ANY, NONE, NUMBER, WORD, ("r", ("row", [("n", 0, 2), ("w", 1, None)])), ("s", ("look", "n", "w", "any", "n")),
                 ("t", ("record", [("any", True, "any"), ("n", False, "w")], False)), ("o", ("one", ["n", "w", "r"])),
                 ("p", ("some", ["n", "t"])), ("q", ("all", ["o", "p", "o"]))]
        told = self.check(forms, {"q": "n", **{name: name for name, _ in forms[:-1]}})
        self.assertEqual(told[0], forms[:-1])
        self.assertEqual(self.check(forms[:-1])[0], forms[:-1])

    def test_the_same_form_twice(self):
        for form in (("any",), ("number", 0, 1), ("word", ["x"]), ("row", []), ("row", [("b", 1, 2)]), ("record", [], True),
                     ("record", [("a", True, "b")], False)):
            self.check([("b", form), ("a", form)], {"b": "b", "a": "b"})
            self.check([("a", form), ("c", form), ("b", form)], {"a": "a", "c": "a", "b": "a"})
        for sort in ("all", "some", "one"):
            forms = [NUMBER, WORD, ("b", (sort, ["n", "w"])), ("a", (sort, ["n", "w"])), ("c", (sort, ["w", "n"]))]
            kept = short(forms)[0]
            self.assertNotIn("a", dict(kept))
            self.assertNotIn("c", dict(kept))
            self.check(forms)

    def test_words_in_another_order(self):
        self.check([("a", ("word", ["x", "y"])), ("b", ("word", ["y", "x"]))], {"a": "a", "b": "a"})

    def test_records_with_fields_in_another_order(self):
        fields = [("x", True, "n"), ("y", False, "w")]
        self.check([("b", ("record", fields, True)), ("a", ("record", fields[::-1], True)), NUMBER, WORD],
                   {"b": "b", "a": "b", "n": "n", "w": "w"})

    def test_all_some_and_one_of_one_name(self):
        for form in (("all", ["n"]), ("some", ["n"]), ("one", ["n"]), ("all", ["n", "n"]), ("some", ["n", "n", "n"]),
                     ("look", "f", "g", "n", "n")):
            self.assertEqual(self.check([NUMBER, ("a", form)]), ([NUMBER], [("n", "n"), ("a", "n")]))
            self.assertEqual(self.check([("a", form), NUMBER]), ([NUMBER], [("a", "n"), ("n", "n")]))
        self.check([NUMBER, ("a", ("one", ["n", "n"]))], {"n": "n", "a": "a"})

    def test_the_not_of_a_not(self):
        forms = [("c", ("not", "b")), ("b", ("not", "n")), NUMBER, ("d", ("not", "c"))]
        self.assertEqual(self.check(forms), ([("b", ("not", "n")), NUMBER],
                                             [("c", "n"), ("b", "b"), ("n", "n"), ("d", "b")]))

    def test_the_later_one_of_less_depth(self):
        forms = [("c", ("all", ["b"])), ("b", ("some", ["n"])), ("r", ("row", [("c", 1, 1), ("b", 0, None)])), NUMBER,
                 ("m", ("number", 1, 5))]
        kept, names = self.check(forms, {"c": "n", "b": "n", "r": "r", "n": "n", "m": "n"})
        self.assertEqual(kept, [("r", ("row", [("n", 1, 1), ("n", 0, None)])), NUMBER])
        self.assertEqual(names, [("c", "n"), ("b", "n"), ("r", "r"), ("n", "n"), ("m", "n")])

    def test_the_depth_and_not_the_row_or_the_name_tells(self):
        forms = [("a", ("not", "b")), ("b", ("not", "c")), ("c", ("not", "d")), ("d", ("not", "e")), ("e", ("word", []))]
        self.check(forms, {"a": "e", "b": "d", "c": "e", "d": "d", "e": "e"})

    def test_several_of_the_same_depth(self):
        forms = [WORD, NUMBER, ("z", ("some", ["n", "w"])), ("b", ("some", ["w", "n"])), ("a", ("one", ["n", "w"])),
                 ("y", ("not", "x")), ("x", ("not", "z"))]
        self.check(forms, {"w": "w", "n": "n", "z": "z", "b": "z", "a": "z", "y": "z", "x": "x"})
        self.check(forms[::-1], {"w": "w", "n": "n", "z": "a", "b": "a", "a": "a", "y": "a", "x": "x"})

    def test_forms_that_let_nothing_by(self):
        forms = [("both", ("all", ["n", "w"])), NUMBER, WORD, ANY, NONE, ("endless", ("row", [("endless", 1, None)])),
                 ("rec", ("record", [("f", True, "rec")], True)), ("two", ("one", ["n", "n"])), ("r", ("row", [("both", 1, 1)]))]
        kept, _ = self.check(forms, {"both": "endless", "n": "n", "w": "w", "any": "any", "none": "endless",
                                     "endless": "endless", "rec": "endless", "two": "endless", "r": "endless"})
        self.assertEqual(kept, [NUMBER, WORD, ANY, ("endless", ("row", [("endless", 1, None)]))])

    def test_forms_that_let_everything_by(self):
        forms = [("x", ("not", "none")), NONE, ANY, ("y", ("some", ["n", "no"])), ("no", ("not", "n")), NUMBER,
                 ("z", ("one", ["n", "no"])), ("r", ("row", [("x", 0, None)])), ("q", ("row", [("z", 0, 1), ("y", 0, None)]))]
        kept, _ = self.check(forms, {"x": "any", "none": "none", "any": "any", "y": "any", "no": "no", "n": "n", "z": "any",
                                     "r": "r", "q": "r"})
        self.assertEqual(kept, [NONE, ANY, ("no", ("not", "n")), NUMBER, ("r", ("row", [("any", 0, None)]))])

    def test_forms_that_speak_of_themselves(self):
        forms = [("a", ("row", [("b", 0, None)])), ("b", ("row", [("a", 0, None)])), ("c", ("row", [("c", 0, None)]))]
        self.assertEqual(self.check(forms), ([("a", ("row", [("a", 0, None)]))], [("a", "a"), ("b", "a"), ("c", "a")]))
        forms = [("t", ("some", ["n", "f"])), NUMBER, ("f", ("record", [("l", True, "t"), ("r", True, "u")], False)),
                 ("u", ("some", ["g", "n"])), ("g", ("record", [("r", True, "t"), ("l", True, "t")], False))]
        kept, _ = self.check(forms, {"t": "t", "n": "n", "f": "f", "u": "t", "g": "f"})
        self.assertEqual(kept, [("t", ("some", ["n", "f"])), NUMBER,
                                ("f", ("record", [("l", True, "t"), ("r", True, "t")], False))])

    def test_names_are_exchanged_at_every_place(self):
        others = [NUMBER, ("m", ("all", ["n"])), WORD, ("v", ("some", ["w"]))]
        for form, expected in [
            (("row", [("m", 1, 1), ("v", 0, None), ("n", 2, 3), ("m", 4, 4)]),
             ("row", [("n", 1, 1), ("w", 0, None), ("n", 2, 3), ("n", 4, 4)])),
            (("record", [("a", True, "m"), ("b", False, "v"), ("c", True, "w"), ("d", False, "m")], True),
             ("record", [("a", True, "n"), ("b", False, "w"), ("c", True, "w"), ("d", False, "n")], True)),
            (("record", [("a", True, "v"), ("b", True, "m"), ("c", True, "v"), ("d", True, "v"), ("e", False, "m"),
                         ("f", False, "v")], False),
             ("record", [("a", True, "w"), ("b", True, "n"), ("c", True, "w"), ("d", True, "w"), ("e", False, "n"),
                         ("f", False, "w")], False)),
            (("some", ["v", "m", "w", "v", "n", "m"]), ("some", ["w", "n", "w", "w", "n", "n"])),
            (("one", ["m", "v"]), ("one", ["n", "w"])),
            (("all", ["m", "v"]), ("all", ["n", "w"])),
            (("not", "m"), ("not", "n")),
        ]:
            for forms in (others + [("top", form)], [("top", form)] + others[::-1]):
                kept, names = self.check(forms, {"n": "n", "m": "n", "w": "w", "v": "w", "top": "top"})
                self.assertEqual(dict(kept), {"n": NUMBER[1], "w": WORD[1], "top": expected})

    def test_names_are_exchanged_in_look(self):
        others = [("n", ("any",)), ("m", ("all", ["n"])), ("w", ("row", [])), ("v", ("some", ["w"]))]
        for form, expected in [
            (("look", "x", "y", "m", "v"), ("look", "x", "y", "n", "w")),
            (("look", "x", "y", "v", "m"), ("look", "x", "y", "w", "n")),
            (("look", "x", "y", "n", "v"), ("look", "x", "y", "n", "w")),
        ]:
            kept, _ = self.check(others + [("top", form)], {"n": "n", "m": "n", "w": "w", "v": "w", "top": "top"})
            self.assertEqual(kept, [others[0], others[2], ("top", expected)])

    def test_words_and_fields_stay(self):
        others = [NUMBER, ("m", ("all", ["n"]))]
        for form, expected in [
            (("word", ["m", "n", "top"]), ("word", ["m", "n", "top"])),
            (("record", [("m", True, "m"), ("n", False, "m")], True), ("record", [("m", True, "n"), ("n", False, "n")], True)),
            (("look", "m", "m", "top", "m"), ("look", "m", "m", "top", "n")),
            (("look", "n", "m", "m", "top"), ("look", "n", "m", "n", "top")),
        ]:
            forms = others + [("top", ("any",)), ("f", form), ("g", ("all", ["f", "top"]))]
            kept, _ = self.check(forms, {"n": "n", "m": "n", "top": "top", "f": "f", "g": "f"})
            self.assertEqual(kept, [NUMBER, ("top", ("any",)), ("f", expected)])

    def test_what_is_kept_leans_on_what_is_kept(self):
        forms = [("e", ("not", "d")), ("d", ("not", "c")), ("c", ("all", ["b", "b"])), ("b", ("some", ["a"])), ("a", ("not", "n")),
                 NUMBER, ("f", ("one", ["e", "c"]))]
        kept, _ = self.check(forms, {"e": "a", "d": "n", "c": "a", "b": "a", "a": "a", "n": "n", "f": "f"})
        self.assertEqual(kept, [("a", ("not", "n")), NUMBER, ("f", ("one", ["a", "a"]))])

    def test_unlike_only_in_things_of_some_size(self):
        for count in (3, 9, 23):
            forms = [("a", ("number", 1, 1))] + [(LETTERS[k], ("row", [(LETTERS[k - 1], 1, 1)])) for k in range(1, count)]
            twin = forms[:-1] + [("x", ("row", [("x", 1, 1)])), forms[-1]]
            self.assertEqual(self.check(forms)[0], forms)
            self.assertEqual(self.check(twin)[0], twin)

    def test_more_kinds_than_can_be_told(self):
        forms = [ANY] + [(letter, ("record", [(letter, True, "any")], True)) for letter in LETTERS[:22]]
        self.assertEqual(self.check(forms)[0], forms)
        twin = ("twin", ("all", ["c", "any"]))
        self.assertEqual(self.check(forms + [twin]), (forms, [(name, name) for name, _ in forms] + [("twin", "c")]))

    def test_twenty_four_forms_that_are_all_alike(self):
        chance = random.Random(43)
        forms = [("a", ("row", [("x", 0, None)]))]
        for k in range(1, 24):
            name = LETTERS[k - 1]
            forms.append((LETTERS[k], chance.choice([("all", [name]), ("some", [name, "a"]), ("row", [(name, 0, None)])])))
        kept, names = self.check(forms)
        self.assertEqual(kept, [("a", ("row", [("a", 0, None)]))])
        self.assertEqual(names, [(letter, "a") for letter in LETTERS])

    def test_made_short_once_more(self):
        chance = random.Random(44)
        for _ in range(40):
            kept = short(random_forms(chance, chance.randint(1, 12)))[0]
            self.assertEqual(short(kept), (kept, [(name, name) for name, _ in kept]))

    def test_forms_at_random(self):
        chance = random.Random(45)
        things = all_things([0, 1, -2, "a", "b"], ["a", "b", "g"], 3)
        lengths = []
        for _ in range(80):
            forms = random_forms(chance, chance.randint(1, 16))
            told = self.check(forms)
            self.assertEqual(told, plain_short(forms), forms)
            self.check_lets(forms, chance.sample(things, 8))
            lengths.append(len(forms) - len(told[0]))
        self.assertGreater(len([length for length in lengths if length > 1]), 20)
        self.assertGreater(lengths.count(0), 5)

    def test_forms_of_which_many_are_alike(self):
        chance = random.Random(46)
        things = all_things([0, 1, -2, "a", "b"], ["a", "b", "g"], 3)
        for _ in range(40):
            forms = random_forms(chance, chance.randint(1, 6))
            for k in range(chance.randint(1, 6)):
                forms.append(("x" * (k + 1), same(chance, forms)))
            chance.shuffle(forms)
            told = self.check(forms)
            self.assertEqual(told, plain_short(forms), forms)
            self.check_lets(forms, chance.sample(things, 8))

    def test_lists_of_its_own(self):
        forms = [NUMBER, WORD, ("u", ("all", ["w"])), ("r", ("row", [("u", 0, 1)])), ("f", ("record", [("u", True, "u")], True)),
                 ("s", ("some", ["n", "u"])), ("v", ("word", []))]
        told = short(forms)
        again = short(forms)
        holders = holders_in((told, again, forms))
        self.assertEqual(len({id(holder) for holder in holders}), len(holders))
        for holder in holders_in(again):
            holder.clear()
        self.assertEqual(short(forms), told)


def same(chance, forms):
    """A form that is like one of the forms, though it need not be so written."""
    name, form = chance.choice(forms)
    return chance.choice([form, ("all", [name]), ("some", [name, name]), ("one", [name]), ("look", "a", "a", name, name)])


if __name__ == "__main__":
    unittest.main()
