"""Point 13: samples, the small things that a form lets by, in order."""

import functools
import inspect
import random
import unittest

from recordgate.gate import lets
from recordgate.samples import samples
from recordgate.things import compared
from recordgate.thingtext import thing_text
from tests.helper import all_things, holders_in, plain_compared, plain_lets, random_forms

FAR = 10**60 - 1
ATOMS = [1, "b", -1, 0, "a", 7]
FIELDS = ["b", "aa", "a", "x"]
FORMS = [
    ("any", ("any",)),
    ("none", ("not", "any")),
    ("n", ("number", 0, None)),
    ("w", ("word", [])),
    ("ab", ("word", ["b", "a"])),
    ("rows", ("row", [("any", 0, None)])),
    ("pair", ("row", [("n", 1, 1), ("w", 1, 1)])),
    ("rec", ("record", [], True)),
    ("shut", ("record", [("a", True, "n"), ("b", False, "rows")], False)),
    ("flat", ("some", ["n", "w"])),
    ("deep", ("not", "flat")),
    ("inrow", ("row", [("deep", 1, None)])),
    ("inrec", ("record", [("a", True, "deep")], True)),
    ("just", ("one", ["rows", "inrow", "rec"])),
    ("both", ("all", ["deep", "rec"])),
    ("see", ("look", "a", "b", "any", "none")),
    ("endless", ("row", [("endless", 1, None)])),
    ("tree", ("some", ["n", "trees"])),
    ("trees", ("row", [("tree", 1, 2)])),
]


class SamplesTest(unittest.TestCase):
    def check(self, forms, name, atoms, fields, most):
        """Holds samples against all things of the atoms and fields; tells how many there are."""
        told = samples(forms, name, atoms, fields, most)
        self.assertIs(type(told), list)
        once = list(dict.fromkeys(atoms)), list(dict.fromkeys(fields))
        expected = [thing for thing in all_things(*once, most) if lets(forms, name, thing)]
        case = (forms, name, atoms, fields, most)
        self.assertEqual(sorted(map(thing_text, told)), sorted(map(thing_text, expected)), case)
        for one, other in zip(told, told[1:]):
            self.assertEqual(compared(one, other), -1, case)
        return len(told)

    def test_arguments(self):
        self.assertEqual(list(inspect.signature(samples).parameters), ["forms", "name", "atoms", "fields", "most"])

    def test_size_1(self):
        for name, expected in [
            ("any", [0, 1, -1, 7, "a", "b", [], {}]), ("none", []), ("n", [0, 1, 7]), ("w", ["a", "b"]), ("rows", [[]]),
            ("rec", [{}]), ("deep", [-1, [], {}]), ("pair", []), ("endless", []), ("see", []),
        ]:
            self.assertEqual(samples(FORMS, name, ATOMS, FIELDS, 1), expected, name)

    def test_size_2(self):
        self.assertEqual(samples(FORMS, "any", [5, "q"], ["b", "a"], 2), [
            5, "q", [], {}, [5], ["q"], [[]], [{}],
            {"a": 5}, {"a": "q"}, {"a": []}, {"a": {}}, {"b": 5}, {"b": "q"}, {"b": []}, {"b": {}},
        ])

    def test_size_3(self):
        self.assertEqual(samples(FORMS, "any", [5], ["b", "a"], 3), [
            5, [], {},
            [5], [[]], [{}], {"a": 5}, {"a": []}, {"a": {}}, {"b": 5}, {"b": []}, {"b": {}},
            [5, 5], [5, []], [5, {}], [[], 5], [[], []], [[], {}], [{}, 5], [{}, []], [{}, {}],
            [[5]], [[[]]], [[{}]], [{"a": 5}], [{"a": []}], [{"a": {}}], [{"b": 5}], [{"b": []}], [{"b": {}}],
            {"a": 5, "b": 5}, {"a": 5, "b": []}, {"a": 5, "b": {}}, {"a": [], "b": 5}, {"a": [], "b": []}, {"a": [], "b": {}},
            {"a": {}, "b": 5}, {"a": {}, "b": []}, {"a": {}, "b": {}},
            {"a": [5]}, {"a": [[]]}, {"a": [{}]}, {"a": {"a": 5}}, {"a": {"a": []}}, {"a": {"a": {}}},
            {"a": {"b": 5}}, {"a": {"b": []}}, {"a": {"b": {}}},
            {"b": [5]}, {"b": [[]]}, {"b": [{}]}, {"b": {"a": 5}}, {"b": {"a": []}}, {"b": {"a": {}}},
            {"b": {"b": 5}}, {"b": {"b": []}}, {"b": {"b": {}}},
        ])

    def test_some_forms_of_size_4(self):
        for name, expected in [
            ("pair", [[0, "a"], [0, "b"]]),
            ("shut", [{"a": 0}, {"a": 0, "b": []}, {"a": 0, "b": [0]}, {"a": 0, "b": ["a"]}, {"a": 0, "b": ["b"]},
                      {"a": 0, "b": [[]]}, {"a": 0, "b": [{}]}, {"a": 0, "b": [-1]}]),
            ("tree", [0, [0], [0, 0], [[0]], [0, [0]], [[0], 0], [[0, 0]], [[[0]]]]),
            ("endless", []), ("none", []),
        ]:
            told = samples(FORMS, name, ["b", 0, "a", -1], ["b", "a"], 4)
            expected = sorted(expected, key=functools.cmp_to_key(plain_compared))
            self.assertEqual(told, expected, name)

    def test_most_0(self):
        for name, _ in FORMS:
            self.assertEqual(samples(FORMS, name, ATOMS, FIELDS, 0), [])
            self.assertEqual(samples(FORMS, name, [], [], 0), [])

    def test_no_atoms_or_no_fields(self):
        self.assertEqual(samples(FORMS, "any", [], [], 1), [[], {}])
        self.assertEqual(samples(FORMS, "any", [], [], 2), [[], {}, [[]], [{}]])
        self.assertEqual(samples(FORMS, "any", [], ["f"], 2), [[], {}, [[]], [{}], {"f": []}, {"f": {}}])
        self.assertEqual(samples(FORMS, "any", [3], [], 2), [3, [], {}, [3], [[]], [{}]])
        for most in range(5):
            for atoms, fields in (([], []), ([], FIELDS[:2]), (ATOMS[:2], [])):
                for name, _ in FORMS:
                    self.check(FORMS, name, atoms, fields, most)

    def test_how_many_there_are(self):
        for most, count in [(1, 8), (2, 48), (3, 696), (4, 10976)]:
            self.assertEqual(len(samples(FORMS, "any", ATOMS, FIELDS, most)), count)

    def test_all_atoms_and_fields(self):
        for name in ("just", "see"):
            self.assertGreater(self.check(FORMS, name, ATOMS, FIELDS, 4), 200)

    def test_each_form(self):
        for name, _ in FORMS:
            self.check(FORMS, name, ATOMS[:3], FIELDS[:2], 4)
            self.check(FORMS, name, ATOMS, FIELDS, 3)

    def test_lists_in_any_order(self):
        chance = random.Random(31)
        for name, _ in FORMS:
            expected = samples(FORMS, name, ATOMS, FIELDS, 3)
            for _ in range(3):
                atoms, fields = chance.sample(ATOMS, len(ATOMS)), chance.sample(FIELDS, len(FIELDS))
                self.assertEqual(samples(chance.sample(FORMS, len(FORMS)), name, atoms, fields, 3), expected)

    def test_what_stands_twice(self):
        for name, _ in FORMS:
            for most in range(4):
                expected = samples(FORMS, name, [1, "b"], ["b", "a"], most)
                self.assertEqual(samples(FORMS, name, [1, "b", 1, 1, "b"], ["b", "a", "a", "b"], most), expected)
                self.assertEqual(samples(FORMS, name, ["b", "b", 1], ["a", "a", "b"], most), expected)

    def test_atoms_of_sixty_figures(self):
        forms = [("any", ("any",)), ("n", ("number", FAR - 1, FAR)), ("m", ("number", None, -FAR))]
        atoms = [-FAR, FAR - 1, FAR, 1 - FAR, "abcdefgh"]
        self.assertEqual(samples(forms, "any", atoms, [], 1), [FAR - 1, 1 - FAR, FAR, -FAR, "abcdefgh", [], {}])
        self.assertEqual(samples(forms, "n", atoms, [], 4), [FAR - 1, FAR])
        self.assertEqual(samples(forms, "m", atoms, ["a"], 4), [-FAR])
        self.check(forms, "any", atoms, ["abcdefgh", "z"], 3)

    def test_words_and_fields_by_their_order(self):
        told = samples(FORMS, "w", ["z", "aa", "b", "abcdefgh", "ab", "a"], [], 1)
        self.assertEqual(told, ["a", "b", "z", "aa", "ab", "abcdefgh"])
        told = samples(FORMS, "rec", [0], ["zz", "b", "aaa", "z"], 3)
        self.assertEqual([list(thing) for thing in told if list(thing.values()) in ([0], [0, 0])],
                         [["b"], ["z"], ["zz"], ["aaa"], ["b", "z"], ["b", "zz"], ["b", "aaa"], ["z", "zz"], ["z", "aaa"],
                          ["zz", "aaa"]])

    def test_words_of_look_need_not_be_atoms(self):
        forms = [("any", ("any",)), ("none", ("not", "any")), ("see", ("look", "a", "q", "any", "none")),
                 ("else", ("look", "a", "q", "none", "any"))]
        self.assertEqual(samples(forms, "see", [0, "b"], ["a"], 4), [])
        self.assertEqual(samples(forms, "see", [0, "q"], ["b"], 4), [])
        self.assertEqual(samples(forms, "see", [0, "q"], ["a"], 2), [{"a": "q"}])
        for name in ("see", "else"):
            self.check(forms, name, [0, "q"], ["a", "b"], 4)

    def test_somewhat_beyond_the_bounds(self):
        self.check(FORMS, "trees", [0], ["a"], 6)
        self.check(FORMS, "any", list(range(8)), ["a", "b", "c", "d", "e"], 2)

    def test_forms_at_random(self):
        chance = random.Random(32)
        found = nothing = 0
        for _ in range(150):
            forms = random_forms(chance, chance.randint(1, 10))
            atoms = chance.choices([0, 1, -1, 2, -2, 10**59, "a", "b", "w", "other"], k=chance.randint(0, 6))
            fields = chance.choices(["a", "b", "g", "h"], k=chance.randint(0, 4))
            most = chance.randint(0, 3 if len(atoms) + len(fields) > 4 else 4)
            for name, _ in chance.sample(forms, min(3, len(forms))):
                count = self.check(forms, name, atoms, fields, most)
                found += count
                nothing += count == 0
        self.assertGreater(found, 3000)
        self.assertGreater(nothing, 50)

    def test_against_a_second_telling_of_lets_and_compared(self):
        chance = random.Random(33)
        things = all_things([0, -1, "b"], ["b", "a"], 3)
        for _ in range(25):
            forms = random_forms(chance, chance.randint(1, 8))
            name = forms[0][0]
            expected = [thing for thing in things if plain_lets(forms, name, thing)]
            expected = sorted(expected, key=functools.cmp_to_key(plain_compared))
            self.assertEqual(samples(forms, name, ["b", 0, -1], ["b", "a"], 3), expected)

    def test_nothing_in_common(self):
        atoms, fields = list(ATOMS[:3]), list(FIELDS[:2])
        told = samples(FORMS, "any", atoms, fields, 4)
        again = samples(FORMS, "any", atoms, fields, 4)
        holders = holders_in((told, again, atoms, fields))
        self.assertEqual(len({id(holder) for holder in holders}), len(holders))
        for holder in holders_in(again):
            holder.clear()
        self.assertEqual(samples(FORMS, "any", atoms, fields, 4), told)
        self.assertEqual((atoms, fields), (ATOMS[:3], FIELDS[:2]))


if __name__ == "__main__":
    unittest.main()
