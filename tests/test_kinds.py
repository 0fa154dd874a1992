"""Points 9 and 10: the kinds of things, each with its least thing."""

import inspect
import random
import unittest

from recordgate.gate import mask_of
from recordgate.kinds import kinds
from tests.helper import all_things, least_by_mask, nested, plain_compared, plain_mask, plain_size, random_forms

ANY = ("any", ("any",))
FAR = 10**60 - 1
ATOMS = [0, 1, -1, 2, -2, 3, -3, "a", "b", "w", "c"]
FIELDS = ["a", "b", "c", "g"]


class Checks(unittest.TestCase):
    def told(self, forms):
        """The kinds of some forms, after a look at what holds of all of them."""
        found = kinds(forms)
        self.assertIs(type(found), list)
        for kind in found:
            self.assertIs(type(kind), tuple)
            self.assertIs(type(kind[0]), int)
            self.assertEqual(mask_of(forms, kind[1]), kind[0], (forms, kind))
        self.assertEqual(len({mask for mask, _ in found}), len(found))
        for (_, one), (_, other) in zip(found, found[1:]):
            self.assertEqual(plain_compared(one, other), -1, (forms, one, other))
        return found

    def check(self, forms, *expected):
        self.assertEqual(self.told(forms), list(expected))

    def check_against(self, forms, found, things):
        """No mask of the things is missing, and none of them is lesser than the thing that was told."""
        by_mask = dict(found)
        for thing in things:
            mask = mask_of(forms, thing)
            if mask not in by_mask or plain_compared(by_mask[mask], thing) > 0:
                self.fail((forms, mask, thing, by_mask.get(mask)))


class AtomTest(Checks):
    def test_arguments(self):
        self.assertEqual(list(inspect.signature(kinds).parameters), ["forms"])

    def test_one_form(self):
        self.check([ANY], (1, 0))
        self.check([("n", ("number", None, None))], (1, 0), (0, "a"))
        self.check([("w", ("word", []))], (0, 0), (1, "a"))
        self.check([("r", ("row", []))], (0, 0), (1, []))
        self.check([("r", ("record", [], False))], (0, 0), (1, {}))

    def test_forms_that_let_nothing_by(self):
        self.check([ANY, ("none", ("not", "any"))], (1, 0))
        self.check([ANY, ("none", ("not", "any")), ("row", ("row", [("none", 1, None)]))], (1, 0))
        self.check([ANY, ("none", ("not", "any")), ("rec", ("record", [("a", True, "none")], True))], (1, 0))
        self.check([("n", ("number", 1, 1)), ("w", ("word", [])), ("both", ("all", ["n", "w"]))], (0, 0), (1, 1), (2, "a"))

    def test_numbers_with_0_within_the_bounds_and_without(self):
        self.check([("n", ("number", -5, 9))], (1, 0), (0, -6))
        self.check([("n", ("number", -9, 5))], (1, 0), (0, 6))
        self.check([("n", ("number", -5, 5))], (1, 0), (0, 6))
        self.check([("n", ("number", 0, 0))], (1, 0), (0, 1))
        self.check([("n", ("number", 3, 9))], (0, 0), (1, 3))
        self.check([("n", ("number", -9, -3))], (0, 0), (1, -3))
        self.check([("n", ("number", None, -3))], (0, 0), (1, -3))
        self.check([("n", ("number", 3, None))], (0, 0), (1, 3))
        self.check([("n", ("number", 0, None))], (1, 0), (0, -1))
        self.check([("n", ("number", 1, None))], (0, 0), (1, 1))
        self.check([("n", ("number", None, 0))], (1, 0), (0, 1))
        self.check([("n", ("number", None, -1))], (0, 0), (1, -1))

    def test_numbers_far_from_0(self):
        self.check([("n", ("number", FAR - 1, FAR)), ("m", ("number", FAR, None)), ("all", ("number", None, None))],
                   (4, 0), (5, FAR - 1), (7, FAR), (6, FAR + 1), (0, "a"))
        self.check([("n", ("number", -FAR, 1 - FAR)), ("m", ("number", None, -FAR)), ("all", ("number", None, None))],
                   (4, 0), (5, 1 - FAR), (7, -FAR), (6, -FAR - 1), (0, "a"))
        self.check([("n", ("number", -FAR, FAR)), ("all", ("number", None, None))], (3, 0), (2, FAR + 1), (0, "a"))

    def test_numbers_that_bounds_cut_in_many(self):
        forms = [("a", ("number", -9, -2)), ("b", ("number", -4, 3)), ("c", ("number", 2, None)), ("d", ("number", None, 7)),
                 ("e", ("one", ["a", "b", "c", "d"]))]
        found = self.told(forms)
        self.check_against(forms, found, list(range(-30, 30)) + ["a", [], {}])
        self.assertEqual(dict(found), least_by_mask(forms, list(range(-30, 30)) + ["a"]))

    def test_words(self):
        self.check([("w", ("word", ["a", "b", "z"])), ("all", ("word", []))], (0, 0), (3, "a"), (2, "c"))
        self.check([("w", ("word", ["zz"])), ("v", ("word", ["zz", "b"])), ("all", ("word", []))],
                   (0, 0), (4, "a"), (6, "b"), (7, "zz"))
        eight = ["b", "a", "d", "c", "f", "e", "h", "g"]
        self.check([("w", ("word", eight)), ("all", ("word", []))], (0, 0), (3, "a"), (2, "i"))
        letters = [chr(ord("a") + k) for k in range(26)]
        forms = [("all", ("word", []))] + [("w" + letters[k], ("word", letters[k:k + 8])) for k in range(0, 26, 8)]
        self.check(forms, (0, 0), (3, "a"), (5, "i"), (9, "q"), (17, "y"), (1, "aa"))
        self.check(forms[1:], (0, 0), (1, "a"), (2, "i"), (4, "q"), (8, "y"))

    def test_words_that_are_looked_at(self):
        self.check([ANY, ("none", ("not", "any")), ("f", ("look", "b", "q", "any", "none"))], (1, 0), (5, {"b": "q"}))
        self.check([ANY, ("w", ("word", [])), ("f", ("look", "b", "q", "w", "any"))], (5, 0), (7, "a"), (1, {"b": "q"}))


class RowTest(Checks):
    def test_rows_that_must_have_several_things(self):
        self.check([("n", ("number", 5, None)), ("r", ("row", [("n", 3, None)]))], (0, 0), (1, 5), (2, [5, 5, 5]))
        self.check([("w", ("word", ["q"])), ("n", ("number", 2, 2)), ("r", ("row", [("w", 2, 2), ("n", 1, 2), ("w", 4, 4)]))],
                   (0, 0), (2, 2), (1, "q"), (4, ["q", "q", 2, "q", "q", "q", "q"]))

    def test_a_later_thing_that_makes_the_row_lesser(self):
        forms = [ANY, ("x", ("some", ["r", "w"])), ("w", ("word", ["q"])), ("r", ("row", [])),
                 ("two", ("row", [("x", 1, 1), ("n", 1, 1)])), ("n", ("number", 7, None))]
        self.assertIn((17, ["q", 7]), self.told(forms))

    def test_two_forms_of_rows_at_once(self):
        forms = [("n", ("number", 1, None)), ("w", ("word", [])), ANY,
                 ("first", ("row", [("n", 1, 1), ("any", 0, None)])), ("last", ("row", [("any", 0, None), ("w", 1, 1)])),
                 ("long", ("row", [("any", 4, None)]))]
        self.check(forms, (4, 0), (5, 1), (6, "a"), (12, [1]), (20, ["a"]), (28, [1, "a"]), (36, [0, 0, 0, 0]),
                   (52, [0, 0, 0, "a"]), (44, [1, 0, 0, 0]), (60, [1, 0, 0, "a"]))

    def test_forms_that_only_deep_things_reach(self):
        forms = [("r" + chr(ord("a") + k), ("row", [("r" + chr(ord("a") + k - 1), 1, 1)])) for k in range(1, 12)]
        forms = [("ra", ("row", []))] + forms
        self.check(forms, (0, 0), *((1 << k, nested(k, [])) for k in range(12)))
        self.check(forms[::-1], (0, 0), *((1 << 11 - k, nested(k, [])) for k in range(12)))

    def test_forms_of_themselves_that_nothing_reaches(self):
        self.check([("r", ("row", [("r", 1, None)]))], (0, 0))
        self.check([("r", ("record", [("a", True, "r")], True))], (0, 0))
        self.check([("r", ("row", [("s", 1, 1)])), ("s", ("record", [("a", True, "t")], True)), ("t", ("some", ["r", "s"]))],
                   (0, 0))

    def test_forms_of_themselves_that_something_reaches(self):
        self.check([("r", ("row", [("r", 0, None)]))], (0, 0), (1, []))
        self.check([("t", ("some", ["n", "b"])), ("n", ("number", 3, 4)), ("b", ("row", [("t", 2, 2)]))],
                   (0, 0), (3, 3), (5, [3, 3]))
        self.check([("odd", ("row", [("even", 1, 1)])), ("even", ("some", ["none", "up"])), ("none", ("row", [])),
                    ("up", ("row", [("odd", 1, 1)]))], (0, 0), (6, []), (1, [[]]), (10, [[[]]]))

    def test_depths_that_come_together_late(self):
        forms = [("e", ("row", []))]
        for letter, count in (("b", 2), ("c", 3), ("d", 5)):
            names = [letter + chr(ord("a") + k) for k in range(count)]
            forms += [(name, ("row", [(before, 1, 1)])) for before, name in zip(names, names[1:])]
            forms += [(letter, ("row", [(names[-1], 1, 1)])), (names[0], ("some", ["e", letter]))]
        forms.append(("all", ("all", ["b", "c", "d"])))
        found = self.told(forms)
        deepest = [thing for mask, thing in found if mask >> len(forms) - 1]
        self.assertEqual(deepest, [nested(30, [])])


class RecordTest(Checks):
    def test_open_and_closed(self):
        self.check([("r", ("record", [], True)), ("s", ("record", [], False))], (0, 0), (3, {}), (1, {"a": 0}))
        forms = [("r", ("record", [("a", False, "n")], True)), ("s", ("record", [("a", True, "n")], False)),
                 ("n", ("number", 2, None))]
        self.check(forms, (0, 0), (4, 2), (1, {}), (3, {"a": 2}))

    def test_fields_that_no_form_tells(self):
        forms = [("r", ("record", [("a", True, "any"), ("b", False, "any")], False)),
                 ("s", ("record", [("b", True, "any")], True)), ANY]
        self.check(forms, (4, 0), (5, {"a": 0}), (6, {"b": 0}), (7, {"a": 0, "b": 0}))
        letters = [chr(ord("a") + k) for k in range(26)]
        forms = [ANY] + [("r" + letters[k], ("record", [(letters[k], True, "any"), (letters[k + 1], False, "any")], False))
                         for k in range(0, 26, 2)]
        found = self.told(forms + [("open", ("record", [], True)), ("shut", ("record", [], False))])
        self.assertEqual(found[1], (1 + (3 << 14), {}))
        self.assertEqual(found[2], (1 + 2 + (1 << 14), {"a": 0}))
        self.assertEqual(found[3], (1 + (1 << 14), {"b": 0}))
        self.assertEqual(len(found), 16)

    def test_an_untold_field_ahead_of_told_ones_and_behind_them(self):
        forms = [("n", ("number", 1, 1)), ("r", ("record", [("b", True, "n"), ("c", True, "n")], True)),
                 ("s", ("record", [("b", True, "n"), ("c", True, "n")], False))]
        self.check(forms, (0, 0), (1, 1), (6, {"b": 1, "c": 1}), (2, {"a": 0, "b": 1, "c": 1}))
        forms = [("n", ("number", 1, 1)), ("r", ("record", [("a", True, "n"), ("b", True, "n")], True)),
                 ("s", ("record", [("a", True, "n"), ("b", True, "n")], False))]
        self.check(forms, (0, 0), (1, 1), (6, {"a": 1, "b": 1}), (2, {"a": 1, "b": 1, "c": 0}))

    def test_several_forms_of_records_at_once(self):
        forms = [("n", ("number", 1, None)), ("w", ("word", ["x", "y"])),
                 ("f", ("record", [("a", True, "n"), ("b", False, "w")], True)),
                 ("g", ("record", [("b", True, "w"), ("a", False, "w")], False)),
                 ("h", ("look", "b", "y", "f", "g"))]
        found = self.told(forms)
        things = all_things([0, 1, "x", "y", "a"], ["a", "b", "c"], 4)
        self.check_against(forms, found, things)
        self.assertEqual(dict(found), least_by_mask(forms, things))

    def test_rows_and_records_within_one_another(self):
        forms = [("node", ("record", [("kids", True, "kids"), ("k", False, "n")], False)),
                 ("kids", ("row", [("node", 0, 2)])), ("n", ("number", 1, 1)),
                 ("big", ("record", [("kids", True, "pair"), ("k", True, "n")], False)),
                 ("pair", ("row", [("node", 2, 2)]))]
        leaf = {"kids": []}
        self.check(forms, (0, 0), (4, 1), (2, []), (1, leaf), (18, [leaf, leaf]), (9, {"k": 1, "kids": [leaf, leaf]}))


class SmallThingsTest(Checks):
    def test_all_small_things(self):
        """Of what is told, all that is as small as that is found among all small things, and nothing else is."""
        chance = random.Random(12)
        things = all_things([0, 1, -1, 2, "a", "b", "w", "c"], ["a", "b", "g", "c"], 3)
        for _ in range(25):
            forms = random_forms(chance, chance.randint(2, 8))
            forms = [(name, ("number", 0, 1) if form[0] == "number" else form) for name, form in forms]
            found = self.told(forms)
            small = {mask: thing for mask, thing in found if plain_size(thing) <= 3}
            self.assertEqual(small, least_by_mask(forms, things), forms)

    def test_small_things_against_forms_at_random(self):
        chance = random.Random(13)
        things = all_things(ATOMS, FIELDS, 3)
        larger = all_things([0, 1, "a"], FIELDS, 4)
        for _ in range(60):
            forms = random_forms(chance, chance.randint(2, 10))
            self.check_against(forms, self.told(forms), chance.sample(things, 150) + chance.sample(larger, 150))

    def test_what_is_made_of_the_things_that_were_told(self):
        """Rows and records of the least things reach no mask that is missing: so nothing does."""
        chance = random.Random(14)
        for _ in range(60):
            forms = random_forms(chance, chance.randint(2, 10))
            found = self.told(forms)
            things = [thing for _, thing in found] + ["a", "b", "w", "c"]
            made = []
            for _ in range(120):
                few = chance.choices(things, k=2)
                made.append([chance.choice(few) for _ in range(chance.randint(0, 8))])
                made.append(chance.choices(things, k=chance.randint(0, 6)))
                made.append({field: chance.choice(things) for field in chance.sample(FIELDS, chance.randint(0, 4))})
            self.check_against(forms, found, made)

    def test_twenty_four_forms(self):
        chance = random.Random(15)
        things = all_things(ATOMS, FIELDS, 3)
        for _ in range(20):
            forms = random_forms(chance, 24)
            found = self.told(forms)
            for mask, thing in found[:10]:
                self.assertEqual(plain_mask(forms, thing), mask)
            self.check_against(forms, found, chance.sample(things, 200))


if __name__ == "__main__":
    unittest.main()
