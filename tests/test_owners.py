"""Point 1: nothing that is handed in is changed, and what is told is the asker's own."""

import copy
import random
import unittest

from recordgate.asking import joined, least, met, outside, turned, unlike
from recordgate.formtext import forms_of, forms_text
from recordgate.gate import bar, lets, mask_of
from recordgate.kinds import kinds
from tests.helper import holders_in, random_forms, spoil

FORMS = [
    ("any", ("any",)),
    ("n", ("number", 1, None)),
    ("w", ("word", ["x", "yy"])),
    ("twins", ("row", [("empty", 2, 2), ("n", 0, None)])),
    ("empty", ("row", [])),
    ("rec", ("record", [("b", True, "twins"), ("a", True, "empty"), ("c", False, "w")], False)),
    ("both", ("all", ["rec", "any"])),
    ("either", ("some", ["rec", "twins"])),
    ("just", ("one", ["rec", "any"])),
    ("no", ("not", "rec")),
    ("see", ("look", "c", "x", "rec", "no")),
    ("deep", ("row", [("rec", 2, None)])),
]
THING = {"b": [[], [], 0], "a": [], "c": "yy"}


def all_answers(forms, thing):
    """What is told of forms and a thing, by everything that can be asked."""
    names = [name for name, _ in forms]
    told = [kinds(forms), forms_of(forms_text(forms)), mask_of(forms, thing)]
    for one, other in zip(names, names[1:] + names[:1]):
        told += [least(forms, one), outside(forms, one, other), unlike(forms, one, other)]
        told += [met(forms, one, other), joined(forms, one, other), turned(forms, one)]
        told += [bar(forms, one, thing), lets(forms, one, thing)]
    return told


class OwnersTest(unittest.TestCase):
    def check(self, forms, thing):
        handed_in = copy.deepcopy((forms, thing))
        told = all_answers(forms, thing)
        self.assertEqual((forms, thing), handed_in)
        kept = copy.deepcopy(told)
        again = all_answers(forms, thing)
        self.assertEqual(again, kept)
        holders = holders_in((told, again, forms, thing))
        self.assertEqual(len({id(holder) for holder in holders}), len(holders))
        spoil(again)
        self.assertEqual(told, kept)
        self.assertEqual((forms, thing), handed_in)
        self.assertEqual(all_answers(forms, thing), kept)

    def test_each_answer(self):
        self.check(FORMS, THING)
        self.check(FORMS[::-1], [THING])

    def test_forms_at_random(self):
        chance = random.Random(19)
        for _ in range(15):
            self.check(random_forms(chance, 8), {"b": [0, "a", [1]], "a": {"g": 1}})

    def test_order_of_fields_stays(self):
        thing = {"b": 1, "a": 2, "aa": {"d": 1, "c": 2}}
        all_answers(FORMS, thing)
        self.assertEqual([list(thing), list(thing["aa"])], [["b", "a", "aa"], ["d", "c"]])

    def test_a_thing_twice_within_what_is_told(self):
        told = least(FORMS, "deep")
        self.assertEqual(told, [{"a": [], "b": [[], []]}] * 2)
        told[0]["b"][0].append(1)
        self.assertEqual(told, [{"a": [], "b": [[1], []]}, {"a": [], "b": [[], []]}])

    def test_forms_that_have_a_list_in_common(self):
        names = ["any"]
        forms = [("any", ("any",)), ("x", ("all", names)), ("y", ("some", names))]
        told = turned(forms, "x")[1]
        told[1][1][1].append("y")
        self.assertEqual(names, ["any"])
        self.assertEqual(told[2], ("y", ("some", ["any"])))

    def test_what_was_told_may_be_handed_in_again(self):
        far = 10**60 - 1
        forms = [("n", ("number", None, far)), ("all", ("number", None, None)), ("row", ("row", [("m", 4, None)])),
                 ("m", ("not", "n"))]
        for mask, thing in kinds(forms):
            self.assertEqual(mask_of(forms, thing), mask)
            self.assertIs(bar(forms, "row", thing) is None, lets(forms, "row", thing))
        told = outside(forms, "all", "n")
        self.assertEqual(told, far + 1)
        self.assertEqual(bar(forms, "n", told), ([], 1))


if __name__ == "__main__":
    unittest.main()
