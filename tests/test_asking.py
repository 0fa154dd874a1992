"""Points 11 and 12: what can be asked of forms, and forms made of them."""

import inspect
import random
import unittest

from recordgate import asking
from recordgate.asking import joined, least, met, outside, turned, unlike
from recordgate.gate import lets
from recordgate.kinds import kinds
from tests.helper import all_things, nested, plain_compared, random_forms

LETTERS = "abcdefghijklmnopqrstuvwxyz"
FORMS = [
    ("any", ("any",)),
    ("none", ("not", "any")),
    ("n", ("number", 3, 9)),
    ("m", ("number", 5, 12)),
    ("wide", ("number", 2, 12)),
    ("w", ("word", ["x", "y"])),
    ("ws", ("word", ["y", "x"])),
    ("pair", ("row", [("n", 2, 2)])),
    ("rows", ("row", [("n", 0, None)])),
    ("rec", ("record", [("b", True, "w"), ("a", True, "pair"), ("c", False, "none")], False)),
    ("loose", ("record", [("a", True, "rows")], True)),
    ("endless", ("row", [("endless", 1, None)])),
]


class LeastTest(unittest.TestCase):
    def test_arguments(self):
        for name, parameters in (
            ("least", ["forms", "name"]), ("outside", ["forms", "one", "other"]), ("unlike", ["forms", "one", "other"]),
            ("met", ["forms", "one", "other"]), ("joined", ["forms", "one", "other"]), ("turned", ["forms", "one"]),
        ):
            self.assertEqual(list(inspect.signature(getattr(asking, name)).parameters), parameters)

    def test_least(self):
        expected = [0, None, 3, 5, 2, "x", "x", [3, 3], [], {"a": [3, 3], "b": "x"}, {"a": []}, None]
        self.assertEqual([least(FORMS, name) for name, _ in FORMS], expected)
        self.assertEqual([least(FORMS[::-1], name) for name, _ in FORMS], expected)

    def test_outside(self):
        for one, other, expected in [
            ("any", "none", 0), ("none", "any", None), ("n", "m", 3), ("m", "n", 10), ("n", "wide", None), ("wide", "n", 2),
            ("w", "ws", None), ("w", "n", "x"), ("pair", "rows", None), ("rows", "pair", []), ("rec", "loose", None),
            ("loose", "rec", {"a": []}), ("endless", "none", None), ("any", "n", 0), ("wide", "any", None), ("n", "n", None),
            ("none", "none", None), ("any", "endless", 0),
        ]:
            self.assertEqual(outside(FORMS, one, other), expected, (one, other))

    def test_unlike(self):
        for one, other, expected in [
            ("any", "none", 0), ("n", "m", 3), ("n", "wide", 2), ("m", "wide", 2), ("w", "ws", None), ("w", "n", 3),
            ("pair", "rows", []), ("rec", "loose", {"a": []}), ("endless", "none", None), ("endless", "rows", []),
            ("n", "n", None), ("endless", "endless", None), ("any", "any", None),
        ]:
            self.assertEqual(unlike(FORMS, one, other), expected, (one, other))
            self.assertEqual(unlike(FORMS, other, one), expected, (one, other))

    def test_records_that_must_have_several_fields(self):
        fields = [(field, True, name) for field, name in zip(["f", "ee", "d", "cc", "b", "a"], ["n", "w", "pair", "m", "any", "rows"])]
        forms = FORMS + [("six", ("record", fields, True)), ("few", ("record", fields[2:], True))]
        told = {"a": [], "b": 0, "d": [3, 3], "f": 3, "cc": 5, "ee": "x"}
        self.assertEqual(least(forms, "six"), told)
        self.assertEqual(outside(forms, "few", "six"), {"a": [], "b": 0, "d": [3, 3], "cc": 5})
        self.assertIsNone(outside(forms, "six", "few"))

    def test_rows_with_several_things_at_least(self):
        forms = FORMS + [("long", ("row", [("w", 2, None), ("n", 4, 4), ("pair", 1, 2), ("any", 3, None)]))]
        self.assertEqual(least(forms, "long"), ["x", "x", 3, 3, 3, 3, [3, 3], 0, 0, 0])

    def test_long_chains_of_rows(self):
        for count in (12, 24):
            forms = [("a", ("number", 7, 7))]
            for k in range(1, count):
                forms.append((LETTERS[k], ("row", [(LETTERS[k - 1], 1, 1)])))
            for order in (forms, forms[::-1]):
                for k in range(count):
                    self.assertEqual(least(order, LETTERS[k]), nested(k, 7))
                self.assertEqual(unlike(order, LETTERS[count - 1], LETTERS[count - 2]), nested(count - 2, 7))

    def test_long_chains_of_records(self):
        forms = [("a", ("word", ["q"]))]
        thing = "q"
        for k in range(1, 24):
            forms.insert(0, (LETTERS[k], ("record", [(LETTERS[-k], True, LETTERS[k - 1])], k % 2 == 0)))
            thing = {LETTERS[-k]: thing}
            self.assertEqual(least(forms, LETTERS[k]), thing)

    def test_chains_that_double(self):
        forms = [("a", ("number", 1, 1))]
        thing = 1
        for k in range(1, 11):
            forms.append((LETTERS[k], ("row", [(LETTERS[k - 1], 2, 2)])))
            thing = [thing, thing]
        self.assertEqual(least(forms, "k"), thing)

    def test_against_kinds_and_lets(self):
        chance = random.Random(16)
        nothing = 0
        for _ in range(120):
            forms = random_forms(chance, chance.randint(2, 12))
            found = kinds(forms)
            names = [name for name, _ in forms]
            for _ in range(5):
                one, other = chance.choices(names, k=2)
                k, m = names.index(one), names.index(other)
                self.assertEqual(least(forms, one), first(found, lambda mask: mask >> k & 1))
                self.assertEqual(outside(forms, one, other), first(found, lambda mask: mask >> k & ~(mask >> m) & 1))
                self.assertEqual(unlike(forms, one, other), first(found, lambda mask: (mask >> k ^ mask >> m) & 1))
                nothing += outside(forms, one, other) is None
        self.assertGreater(nothing, 100)

    def test_against_small_things(self):
        chance = random.Random(17)
        things = all_things([0, 1, -1, "a", "b"], ["a", "b", "g"], 3)
        for _ in range(40):
            forms = random_forms(chance, chance.randint(2, 8))
            one, other = chance.choices([name for name, _ in forms], k=2)
            for told, wanted in (
                (least(forms, one), lambda thing: lets(forms, one, thing)),
                (outside(forms, one, other), lambda thing: lets(forms, one, thing) and not lets(forms, other, thing)),
                (unlike(forms, one, other), lambda thing: lets(forms, one, thing) != lets(forms, other, thing)),
            ):
                self.assertTrue(told is None or wanted(told))
                for thing in chance.sample(things, 80):
                    if wanted(thing):
                        self.assertIsNotNone(told)
                        self.assertLessEqual(plain_compared(told, thing), 0)


def first(found, is_wanted):
    return next((thing for mask, thing in found if is_wanted(mask)), None)


class MadeTest(unittest.TestCase):
    def test_what_is_told(self):
        for told, form in (
            (met(FORMS, "n", "m"), ("all", ["n", "m"])),
            (joined(FORMS, "n", "m"), ("some", ["n", "m"])),
            (turned(FORMS, "n"), ("not", "n")),
            (met(FORMS, "m", "n"), ("all", ["m", "n"])),
            (joined(FORMS, "w", "w"), ("some", ["w", "w"])),
        ):
            self.assertEqual(told, ("a", FORMS + [("a", form)]))
            self.assertEqual([type(told), type(told[1]), type(told[1][-1]), type(told[1][-1][1])], [tuple, list, tuple, tuple])

    def test_the_name(self):
        for names, name in [
            (["b"], "a"), (["a"], "b"), (["a", "b", "d"], "c"), (["c", "b", "a"], "d"), (["aa"], "a"),
            (list(LETTERS[:23]), "x"), (list(LETTERS[1:23]), "a"), (list(LETTERS[3:]), "a"), (list(LETTERS[::2]), "b"),
            (list(LETTERS[:9] + LETTERS[10:23]), "j"), (["a", "z", "aa", "ab"], "b"),
        ]:
            forms = [(taken, ("any",)) for taken in names]
            for told in (met(forms, names[0], names[-1]), joined(forms, names[0], names[-1]), turned(forms, names[0])):
                self.assertEqual(told[0], name)
                self.assertEqual(told[1][:-1], forms)
                self.assertEqual(told[1][-1][0], name)

    def test_more_names_than_letters(self):
        forms = [(letter, ("any",)) for letter in LETTERS]
        self.assertEqual(turned(forms, "a")[0], "aa")
        forms += [("a" + letter, ("any",)) for letter in LETTERS]
        self.assertEqual(turned(forms, "a")[0], "ba")

    def test_what_it_lets_by(self):
        chance = random.Random(18)
        things = all_things([0, 1, -2, "a", "b"], ["a", "b"], 3)
        for _ in range(40):
            forms = random_forms(chance, chance.randint(1, 9))
            one, other = chance.choices([name for name, _ in forms], k=2)
            for thing in chance.sample(things, 20):
                mine, yours = lets(forms, one, thing), lets(forms, other, thing)
                for told, expected in (
                    (met(forms, one, other), mine and yours), (joined(forms, one, other), mine or yours),
                    (turned(forms, one), not mine),
                ):
                    self.assertIs(lets(told[1], told[0], thing), expected)
                    self.assertIs(lets(told[1], one, thing), mine)

    def test_asked_again(self):
        name, forms = met(FORMS, "n", "m")
        self.assertEqual(least(forms, name), 5)
        name, forms = joined(forms, "w", "m")
        self.assertEqual((name, least(forms, name)), ("b", 5))
        name, forms = turned(forms, "any")
        self.assertEqual((name, least(forms, name)), ("c", None))
        self.assertIsNone(unlike(forms, "c", "none"))


if __name__ == "__main__":
    unittest.main()
