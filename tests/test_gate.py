"""Points 1, 4, 5, 6, 9 and 10: what each sort of form lets by, and the masks of things."""

import inspect
import itertools
import random
import unittest

from recordgate.gate import lets, mask_of
from tests.helper import all_things, nested, plain_lets, plain_mask, random_forms

LARGE = 10**60 - 1
ANY = ("any", ("any",))
BASE = [
    ANY,
    ("none", ("not", "any")),
    ("n", ("number", None, None)),
    ("w", ("word", [])),
    ("low", ("number", None, 0)),
    ("high", ("number", 0, None)),
    ("ab", ("word", ["a", "b"])),
]
OF_EACH_SORT = [0, -1, 5, "a", "abcdefgh", [], [1], [[]], {}, {"a": 1}, {"a": {}}]


class Checks(unittest.TestCase):
    def check(self, form, let_by, barred):
        """The form, beside those of BASE, lets by just the former of these things."""
        forms = BASE + [("form", form)]
        for thing in let_by:
            with self.subTest(form=form, thing=thing):
                self.assertIs(lets(forms, "form", thing), True)
                self.assertEqual(mask_of(forms, thing) >> len(BASE), 1)
        for thing in barred:
            with self.subTest(form=form, thing=thing):
                self.assertIs(lets(forms, "form", thing), False)
                self.assertEqual(mask_of(forms, thing) >> len(BASE), 0)


class InterfaceTest(unittest.TestCase):
    def test_arguments(self):
        self.assertEqual(list(inspect.signature(lets).parameters), ["forms", "name", "thing"])
        self.assertEqual(list(inspect.signature(mask_of).parameters), ["forms", "thing"])


class AtomTest(Checks):
    def test_any(self):
        self.check(("any",), OF_EACH_SORT, [])

    def test_numbers_at_beside_and_beyond_the_bounds(self):
        self.check(("number", -2, 3), [-2, -1, 0, 1, 2, 3], [-100, -4, -3, 4, 5, 100])
        self.check(("number", 4, 4), [4], [3, 5, -4, 0])
        self.check(("number", -7, -5), [-7, -6, -5], [-8, -4, 5, 6, 7, 0])
        self.check(("number", 0, 0), [0], [-1, 1])

    def test_bounds_left_out(self):
        self.check(("number", None, 3), [3, 2, 0, -1, -LARGE], [4, LARGE])
        self.check(("number", -3, None), [-3, -2, 0, 1, LARGE], [-4, -LARGE])
        self.check(("number", None, None), [0, 1, -1, LARGE, -LARGE], [])

    def test_numbers_of_sixty_figures(self):
        self.check(("number", LARGE - 1, LARGE), [LARGE - 1, LARGE], [LARGE - 2, LARGE + 1, -LARGE, 0])
        self.check(("number", -LARGE, 1 - LARGE), [-LARGE, 1 - LARGE], [2 - LARGE, -LARGE - 1, LARGE, 0])
        self.check(("number", -LARGE, LARGE), [-LARGE, 0, LARGE], [LARGE + 1, -LARGE - 1])

    def test_only_numbers_are_numbers(self):
        self.check(("number", None, None), [], ["a", [], [1], {}, {"a": 1}])

    def test_words(self):
        self.check(("word", ["a", "bc"]), ["a", "bc"], ["b", "c", "ab", "aa", "abc"])
        eight = ["a", "b", "c", "d", "e", "f", "g", "abcdefgh"]
        self.check(("word", eight), eight, ["h", "abcdefg"])

    def test_the_empty_list_of_words(self):
        self.check(("word", []), ["a", "z", "any", "abcdefgh"], [0, [], {}, ["a"], {"a": "a"}])

    def test_only_words_are_words(self):
        self.check(("word", ["a"]), ["a"], [0, 1, [], {}, ["a"], {"a": 1}, {"a": "a"}])


class RowTest(Checks):
    def test_no_part(self):
        self.check(("row", []), [[]], [[1], [[]], ["a", "b"]])

    def test_no_rows(self):
        for parts in ([], [("any", 0, None)], [("any", 1, 1)], [("any", 0, 4), ("n", 0, None)]):
            self.check(("row", parts), [], [0, 1, "a", {}, {"a": 1}, {"a": []}])

    def test_one_part(self):
        for least in range(5):
            for most in [None] + list(range(max(1, least), 5)):
                fitting = [count for count in range(8) if least <= count and (most is None or count <= most)]
                rows = [[k] * k for k in fitting]
                others = [[k] * k for k in range(8) if k not in fitting]
                spoilt = [[1] * k + ["a"] + [1] * (count - k - 1) for count in fitting for k in range(count)]
                self.check(("row", [("n", least, most)]), rows, others + spoilt)

    def test_a_first_cut_that_fails(self):
        last_is_number = [("any", 0, None), ("n", 1, 1)]
        self.check(("row", last_is_number), [[1], [1, 1], ["a", 1], [1, "a", 1]], [[], ["a"], [1, "a"], [[1]]])
        self.check(("row", [("n", 0, 4), ("n", 2, 2)]), [[1] * k for k in range(2, 7)], [[], [1], [1] * 7, [1, "a"]])
        self.check(("row", [("any", 0, None), ("w", 1, 1), ("any", 0, None), ("n", 1, 1)]),
                   [["a", 1], [1, "a", 1], ["a", "a", 1, 1], ["a", [], 1]], [[1, "a"], ["a"], [1], ["a", 1, []], []])
        self.check(("row", [("ab", 1, 2), ("w", 1, 2), ("ab", 1, 1)]),
                   [["a", "b", "a"], ["a", "c", "a"], ["a", "a", "a", "a"], ["a", "c", "c", "a"], ["a"] * 5],
                   [["a", "a"], ["c", "c", "a"], ["a", "c", "c"], ["a", "c", "c", "c", "a"], ["a"] * 6])

    def test_four_parts(self):
        self.check(("row", [("n", 1, 1), ("w", 0, 1), ("n", 0, 2), ("w", 4, 4)]),
                   [[1] + ["a"] * 4, [1] + ["a"] * 5, [1, 1, 1] + ["a"] * 4, [1, "a", 1] + ["a"] * 4],
                   [[1] + ["a"] * 3, [1] + ["a"] * 6, [1] * 4 + ["a"] * 4, ["a"] * 4, [1, "a", 1, "a", 1] + ["a"] * 4])

    def test_the_empty_row(self):
        self.check(("row", [("n", 0, 1), ("w", 0, None), ("none", 0, 4), ("any", 0, None)]), [[]], [])
        self.check(("row", [("none", 0, None)]), [[]], [[1], ["a"], [[]]])
        for k in range(4):
            parts = [("any", 0, None)] * 4
            parts[k] = ("any", 1, None)
            self.check(("row", parts), [[1]], [[]])

    def test_all_rows_of_two_things_against_parts_at_random(self):
        rows = [list(row) for length in range(7) for row in itertools.product([1, "a"], repeat=length)]
        chance = random.Random(4)
        for _ in range(150):
            parts = []
            for _ in range(chance.randint(0, 4)):
                least = chance.randint(0, 4) if chance.random() < 0.5 else 0
                most = chance.choice([None] + list(range(max(1, least), 5)))
                parts.append((chance.choice(["n", "w", "any", "high"]), least, most))
            forms = BASE + [("form", ("row", parts))]
            for row in rows:
                if lets(forms, "form", row) is not plain_lets(forms, "form", row):
                    self.fail((parts, row))


class RecordTest(Checks):
    def test_no_fields_told(self):
        self.check(("record", [], True), [{}, {"a": 1}, {"b": {}, "c": []}], [0, "a", [], [{}]])
        self.check(("record", [], False), [{}], [{"a": 1}, {"b": {}, "c": []}, 0, "a", [], [{}]])

    def test_must(self):
        fields = [("b", True, "n"), ("a", True, "w")]
        self.check(("record", fields, True),
                   [{"a": "x", "b": 1}, {"b": 1, "a": "x"}, {"a": "x", "b": 1, "c": []}],
                   [{}, {"a": "x"}, {"b": 1}, {"a": 1, "b": 1}, {"a": "x", "b": "x"}, {"a": "x", "c": 1}, [], 1, "a"])
        self.check(("record", fields, False),
                   [{"a": "x", "b": 1}, {"b": 1, "a": "x"}],
                   [{}, {"a": "x"}, {"b": 1}, {"a": 1, "b": 1}, {"a": "x", "b": 1, "c": []}, {"a": "x", "c": 1}])

    def test_may(self):
        fields = [("a", False, "n"), ("b", False, "none")]
        self.check(("record", fields, True),
                   [{}, {"a": 1}, {"a": 1, "c": 2}, {"c": "a"}],
                   [{"a": "a"}, {"b": 1}, {"a": 1, "b": 1}, {"a": [], "c": 2}, [], 1, "a"])
        self.check(("record", fields, False),
                   [{}, {"a": 1}],
                   [{"a": 1, "c": 2}, {"c": "a"}, {"a": "a"}, {"b": 1}, {"a": 1, "b": 1}])

    def test_must_and_may(self):
        fields = [("a", True, "n"), ("b", False, "w")]
        self.check(("record", fields, False), [{"a": 1}, {"a": 1, "b": "x"}], [{}, {"b": "x"}, {"a": 1, "b": 1}])

    def test_must_of_what_lets_nothing_by(self):
        self.check(("record", [("a", True, "none")], True), [], [{}, {"a": 1}, {"b": 1}])

    def test_six_fields(self):
        fields = [(field, True, "n") for field in "fedcba"]
        whole = {field: 1 for field in "abcdef"}
        self.check(("record", fields, False), [whole], [dict(whole, g=1)] + [dict(whole, **{f: "a"}) for f in "abcdef"])


class LeaningTest(Checks):
    def test_all(self):
        self.check(("all", ["low", "high"]), [0], [1, -1, "a", [], {}])
        self.check(("all", ["low"]), [0, -1], [1, "a"])
        self.check(("all", ["high", "high"]), [0, 1], [-1, "a"])
        self.check(("all", ["any", "n", "low", "high", "any", "any"]), [0], [1, "a"])

    def test_some(self):
        self.check(("some", ["low", "ab"]), [0, -1, "a", "b"], [1, "c", [], {}])
        self.check(("some", ["ab"]), ["a"], ["c", 1])
        self.check(("some", ["ab", "ab", "none"]), ["a"], ["c", 1])

    def test_one(self):
        self.check(("one", ["low", "high"]), [1, -1], [0, "a", [], {}])
        self.check(("one", ["low", "high", "n"]), [], [0, 1, -1, "a"])
        self.check(("one", ["low", "high", "any"]), ["a", [], {}], [0, 1, -1])
        self.check(("one", ["ab"]), ["a"], ["c"])

    def test_one_of_a_name_that_stands_twice(self):
        self.check(("one", ["low", "low"]), [], [0, 1, -1, "a"])
        self.check(("one", ["low", "high", "low"]), [1], [0, -1, "a"])
        self.check(("one", ["low", "low", "low", "w"]), ["a"], [0, -1, 1, []])

    def test_not(self):
        self.check(("not", "low"), [1, "a", [], {}], [0, -1])
        self.check(("not", "none"), OF_EACH_SORT, [])
        self.check(("not", "any"), [], OF_EACH_SORT)

    def test_a_long_chain_of_leanings(self):
        forms = [("a" * 8, ("number", 0, 0))]
        for k in range(23):
            forms.insert(0, ("b" * 7 + chr(ord("a") + k), ("not", forms[0][0])))
        for k, (name, _) in enumerate(reversed(forms)):
            self.assertIs(lets(forms, name, 0), k % 2 == 0)
            self.assertIs(lets(forms, name, "a"), k % 2 == 1)


class LookTest(Checks):
    def test_look(self):
        forms = [
            ("form", ("look", "kind", "x", "closed", "other")),
            ("closed", ("record", [("kind", True, "any"), ("a", False, "any")], False)),
            ("other", ("some", ["n", "long"])),
            ("long", ("record", [("b", True, "any")], True)),
            ("n", ("number", None, None)),
            ANY,
        ]
        let_by = [
            {"kind": "x"}, {"kind": "x", "a": 1},
            {"kind": "y", "b": 1}, {"b": 1}, {"kind": 1, "b": 1}, {"kind": ["x"], "b": 1}, {"kind": {}, "b": 1},
            {"b": {"kind": "x"}}, {"kind": "xx", "b": []}, 0, 5,
        ]
        barred = [
            {"kind": "x", "b": 1}, {"kind": "x", "a": 1, "b": 1}, {"kind": "y"}, {"kind": "y", "a": 1}, {},
            {"kind": 0}, {"kind": ["x"]}, {"kind": []}, {"a": "x"}, "x", "kind", [], ["x"], [{"kind": "x"}],
        ]
        for thing in let_by:
            self.assertIs(lets(forms, "form", thing), True, thing)
        for thing in barred:
            self.assertIs(lets(forms, "form", thing), False, thing)

    def test_look_tells_the_word_from_others_that_forms_let_by_alike(self):
        self.check(("look", "a", "x", "any", "none"), [{"a": "x"}, {"a": "x", "b": 1}],
                   [{"a": "y"}, {"a": ["x"]}, {"a": {"a": "x"}}, {"b": "x"}, {}, "x", ["x"], 0])

    def test_several_looks(self):
        forms = BASE + [
            ("one", ("look", "a", "x", "any", "none")),
            ("other", ("look", "a", "y", "any", "none")),
            ("third", ("look", "b", "x", "one", "other")),
        ]
        masks = [(thing, mask_of(forms, thing) >> len(BASE)) for thing in (
            {"a": "x"}, {"a": "y"}, {"a": "z"}, {"b": "x"}, {"a": "x", "b": "x"}, {"a": "y", "b": "x"}, {"a": "y", "b": "y"},
        )]
        self.assertEqual([mask for _, mask in masks], [1, 6, 0, 0, 5, 2, 6])


class WithinTest(unittest.TestCase):
    TREES = [
        ("tree", ("some", ["leaf", "branch"])),
        ("branch", ("row", [("tree", 2, 2)])),
        ("leaf", ("number", 0, None)),
        ("chain", ("record", [("next", False, "chain"), ("value", True, "tree")], False)),
        ("endless", ("row", [("endless", 1, None)])),
        ("rows", ("row", [("rows", 0, None)])),
        ("even", ("row", [("odd", 0, None)])),
        ("odd", ("row", [("even", 1, None)])),
    ]

    def test_forms_that_speak_of_themselves(self):
        tree = [[1, 2], [[3, 4], 5]]
        self.assertIs(lets(self.TREES, "tree", tree), True)
        self.assertIs(lets(self.TREES, "tree", [[1, 2], [[3, -4], 5]]), False)
        self.assertIs(lets(self.TREES, "tree", [[1, 2], [[3, 4]]]), False)
        self.assertIs(lets(self.TREES, "branch", 1), False)
        self.assertIs(lets(self.TREES, "chain", {"value": tree, "next": {"next": {"value": 1}, "value": 2}}), True)
        self.assertIs(lets(self.TREES, "chain", {"value": tree, "next": {"next": {"valu": 1}, "value": 2}}), False)

    def test_deep_things(self):
        for depth in range(21):
            thing = nested(depth, [])
            self.assertIs(lets(self.TREES, "endless", thing), False)
            self.assertIs(lets(self.TREES, "rows", thing), True)
            self.assertIs(lets(self.TREES, "rows", nested(depth, 1)), False)
            self.assertIs(lets(self.TREES, "even", thing), depth % 2 == 0)
            self.assertIs(lets(self.TREES, "odd", thing), depth % 2 == 1)

    def test_things_deeper_than_those_handed_in(self):
        for depth in (500, 5001):
            thing = nested(depth, [])
            self.assertIs(lets(self.TREES, "even", thing), depth % 2 == 0)
            self.assertEqual(mask_of(self.TREES, thing), 0b01100000 if depth % 2 == 0 else 0b10100000)

    def test_rows_in_any_order(self):
        things = [nested(3, []), [[1, 2], 3], {"value": 1}, {"value": [1, 1], "next": {"value": 0}}, [], 1, -1]
        for forms in list(itertools.permutations(self.TREES))[::4001]:
            for thing in things:
                mask = mask_of(list(forms), thing)
                for k, (name, _) in enumerate(forms):
                    self.assertIs(mask >> k & 1 == 1, lets(self.TREES, name, thing))

    def test_fields_in_any_order(self):
        fields = [("a", True, "leaf"), ("bb", False, "tree"), ("c", False, "leaf")]
        thing = [("a", 1), ("bb", [1, 1]), ("c", 2)]
        for told in itertools.permutations(fields):
            for entries in itertools.permutations(thing):
                forms = self.TREES + [("form", ("record", list(told), False))]
                self.assertIs(lets(forms, "form", dict(entries)), True)
                self.assertIs(lets(forms, "form", dict(entries, bb=-1)), False)
                self.assertIs(lets(forms, "form", dict(entries, d=1)), False)


class RandomTest(unittest.TestCase):
    def test_small_things_against_forms_at_random(self):
        things = all_things([0, 1, -2, "a", "b", "c"], ["a", "b", "c"], 3)
        chance = random.Random(6)
        for _ in range(60):
            forms = random_forms(chance, chance.randint(1, 9))
            for thing in chance.sample(things, 60):
                mask = mask_of(forms, thing)
                self.assertEqual(mask, plain_mask(forms, thing), (forms, thing))
                for k, (name, _) in enumerate(forms):
                    self.assertIs(lets(forms, name, thing), mask >> k & 1 == 1)

    def test_twenty_four_forms(self):
        chance = random.Random(7)
        things = all_things([0, 1, -2, "a", "b"], ["a", "b"], 3)
        for _ in range(10):
            forms = random_forms(chance, 24)
            for thing in chance.sample(things, 30):
                self.assertEqual(mask_of(forms, thing), plain_mask(forms, thing), (forms, thing))


if __name__ == "__main__":
    unittest.main()
