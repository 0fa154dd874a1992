"""Point 1: nothing that is handed in is changed, and what is told is the asker's own."""

import copy
import random
import unittest

from recordgate.asking import joined, least, met, outside, turned, unlike
from recordgate.formtext import forms_of, forms_text
from recordgate.gate import bar, lets, mask_of
from recordgate.hall import judged
from recordgate.kinds import kinds
from recordgate.moved import lost, moved
from recordgate.samples import samples
from recordgate.short import depth, short
from recordgate.things import compared, size_of
from recordgate.thingtext import thing_of, thing_text
from tests.helper import holders_in, random_forms, spoil

FORMS = [
    ("any", ("any",)),
    ("n", ("number", 1, None)),
    ("w", ("word", ["x", "yy"])),
    ("twins", ("row", [("empty", 2, 2), ("n", 0, None)])),
    ("empty", ("row", [])),
    ("rec", ("record", [("b", True, "twins"), ("a", True, "empty"), ("c", False, "w")], False)),
    ("both", ("all", ["rec", "any"])),
    ("either", ("some", ["rec", "twins"])),
    ("just", ("one", ["rec", "any"])),
    ("no", ("not", "rec")),
    ("see", ("look", "c", "x", "rec", "no")),
    ("deep", ("row", [("rec", 2, None)])),
]
THING = {"b": [[], [], 0], "a": [], "c": "yy"}


OTHERS = [
    ("any", ("any",)),
    ("n", ("number", None, 1)),
    ("w", ("word", [])),
    ("twins", ("row", [("empty", 1, None), ("w", 0, 2)])),
    ("empty", ("row", [])),
    ("rec", ("record", [("b", True, "twins"), ("a", True, "twins")], True)),
    ("both", ("one", ["rec", "any"])),
    ("deep", ("row", [("rec", 2, 3)])),
    ("alone", ("not", "rec")),
]
THINGS = [THING, [], [[], [], 5], "yy", THING, {"b": [[]], "a": [[]]}, [{"a": [], "b": [[], []]}] * 2, 3, -3]
ATOMS = [1, "x", -1, 1]
FIELDS = ["c", "a", "c"]


def all_answers(forms, others, things, atoms, fields):
    """What is told of forms, forms of another make and things, by every function of the interface."""
    told = [kinds(forms), short(forms), moved(forms, others), moved(others, forms), forms_text(forms)]
    told += [forms_of(forms_text(forms)), forms_of(forms_text(others))]
    for thing, other in zip(things, things[1:] + things[:1]):
        told += [mask_of(forms, thing), thing_text(thing), thing_of(thing_text(thing)), size_of(thing), compared(thing, other)]
    names = [name for name, _ in forms]
    for one, other in zip(names, names[1:] + names[:1]):
        told += [least(forms, one), outside(forms, one, other), unlike(forms, one, other), depth(forms, one)]
        told += [met(forms, one, other), joined(forms, one, other), turned(forms, one)]
        told += [samples(forms, one, atoms, fields, 3)]
        for thing in things:
            told += [bar(forms, one, thing), lets(forms, one, thing), judged(forms_text(forms), one, thing_text(thing))]
        if one in dict(others):
            told += [lost(forms, others, one, things), lost(others, forms, one, things)]
    return told


class OwnersTest(unittest.TestCase):
    def check(self, *handed_in):
        before = copy.deepcopy(handed_in)
        told = all_answers(*handed_in)
        self.assertEqual(handed_in, before)
        kept = copy.deepcopy(told)
        again = all_answers(*handed_in)
        self.assertEqual(again, kept)
        given = {id(holder) for holder in holders_in(handed_in)}
        holders = holders_in((told, again))
        self.assertEqual(len({id(holder) for holder in holders} - given), len(holders))
        spoil(again)
        self.assertEqual(told, kept)
        self.assertEqual(handed_in, before)
        self.assertEqual(all_answers(*handed_in), kept)

    def test_each_answer(self):
        self.check(FORMS, OTHERS, THINGS, ATOMS, FIELDS)
        self.check(FORMS[::-1], OTHERS, THINGS[::-1], ATOMS[::-1], FIELDS[::-1])
        self.check(OTHERS, FORMS, [], [], [])

    def test_one_answer_after_the_other_is_spoilt(self):
        told = all_answers(FORMS, OTHERS, THINGS[:2], ATOMS, FIELDS)
        kept = copy.deepcopy(told)
        for k in range(len(told)):
            if holders_in(told[k]):
                spoil(told[k])
                self.assertEqual(told[k + 1:], kept[k + 1:])

    def test_forms_at_random(self):
        chance = random.Random(19)
        things = [{"b": [0, "a", [1]], "a": {"g": 1}}, [0, "a"], {"a": "b", "g": []}, "w"]
        for _ in range(15):
            forms, others = random_forms(chance, 8), random_forms(chance, 8)
            self.check(forms, others, things, [0, "a", 1], ["g", "a"])

    def test_order_of_fields_stays(self):
        thing = {"b": 1, "a": 2, "aa": {"d": 1, "c": 2}}
        all_answers(FORMS, OTHERS, [thing], ATOMS, FIELDS)
        self.assertEqual([list(thing), list(thing["aa"])], [["b", "a", "aa"], ["d", "c"]])

    def test_a_thing_twice_within_what_is_told(self):
        told = least(FORMS, "deep")
        self.assertEqual(told, [{"a": [], "b": [[], []]}] * 2)
        told[0]["b"][0].append(1)
        self.assertEqual(told, [{"a": [], "b": [[1], []]}, {"a": [], "b": [[], []]}])

    def test_forms_that_have_a_list_in_common(self):
        names = ["any"]
        forms = [("any", ("any",)), ("x", ("all", names)), ("y", ("some", names))]
        told = turned(forms, "x")[1]
        told[1][1][1].append("y")
        self.assertEqual(names, ["any"])
        self.assertEqual(told[2], ("y", ("some", ["any"])))
        names = ["n", "w"]
        told = short([FORMS[1], FORMS[2], ("x", ("all", names)), ("y", ("one", names))])[0]
        told[2][1][1].append("y")
        self.assertEqual((names, told[3]), (["n", "w"], ("y", ("one", ["n", "w"]))))

    def test_places_that_lost_tells(self):
        things = [{"a": [], "b": [[], [], 5], "c": "x"}, {"a": [], "b": [[], []], "c": "x"}, {"a": [], "b": [[], [], 5]}]
        told = lost(FORMS, [("any", ("any",)), ("rec", ("record", [("c", False, "no")], True)), ("no", ("not", "any"))], "rec", things)
        self.assertEqual(told, [(0, ["c"], 3), (1, ["c"], 3)])
        told[0][1].append(7)
        self.assertEqual(told[1], (1, ["c"], 3))

    def test_what_was_told_may_be_handed_in_again(self):
        far = 10**60 - 1
        forms = [("n", ("number", None, far)), ("all", ("number", None, None)), ("row", ("row", [("m", 4, None)])),
                 ("m", ("not", "n"))]
        for mask, thing in kinds(forms):
            self.assertEqual(mask_of(forms, thing), mask)
            self.assertIs(bar(forms, "row", thing) is None, lets(forms, "row", thing))
        told = outside(forms, "all", "n")
        self.assertEqual(told, far + 1)
        self.assertEqual(bar(forms, "n", told), ([], 1))


if __name__ == "__main__":
    unittest.main()
