"""Points 1, 7 and 8: where and by which row a thing is barred."""

import copy
import inspect
import itertools
import random
import unittest

from recordgate.gate import bar, lets
from tests.helper import all_things, nested, plain_bar, random_forms

# The rows of these are 1 to 7; those of a form that a test adds begin with 8.
BASE = [
    ("any", ("any",)),
    ("none", ("not", "any")),
    ("n", ("number", 0, 9)),
    ("w", ("word", ["x"])),
    ("ns", ("row", [("n", 0, 3)])),
    ("rec", ("record", [("b", False, "n"), ("a", True, "w")], False)),
    ("wide", ("record", [("c", False, "ns")], True)),
]


class Checks(unittest.TestCase):
    def check(self, added, thing, place, row):
        """The first of the added forms bars the thing there, by that row."""
        forms = BASE + added
        told = bar(forms, added[0][0], thing)
        self.assertEqual(told, (place, row))
        self.assertEqual([type(told), type(told[0]), type(told[1])], [tuple, list, int])
        self.assertIs(lets(forms, added[0][0], thing), False)

    def check_own(self, form, things):
        """The form bars each of the things at the top, by its own row."""
        for thing in things:
            with self.subTest(form=form, thing=thing):
                self.check([("form", form)], thing, [], 8)


class BarTest(Checks):
    def test_arguments(self):
        self.assertEqual(list(inspect.signature(bar).parameters), ["forms", "name", "thing"])

    def test_none_where_the_thing_is_let_by(self):
        let_by = [("any", 1), ("any", {}), ("n", 0), ("w", "x"), ("ns", []), ("ns", [1, 2, 3]), ("rec", {"a": "x"}),
                  ("rec", {"b": 9, "a": "x"}), ("wide", {}), ("wide", {"d": 1, "c": [1]})]
        for name, thing in let_by:
            self.assertIsNone(bar(BASE, name, thing), (name, thing))

    def test_numbers_and_words(self):
        self.check_own(("number", 0, 5), [-1, 6, "a", [], [1], {}, {"a": 1}])
        self.check_own(("number", None, None), ["a", [], {}])
        self.check_own(("word", ["x"]), ["y", 1, [], ["x"], {}, {"x": "x"}])
        self.check_own(("word", []), [1, [], {}])

    def test_some_one_not_look(self):
        self.check_own(("some", ["ns", "rec"]), [1, ["x"], [1, 2, 3, 4], {"a": 1}, {"a": "x", "c": 1}])
        self.check_own(("some", ["ns"]), [["x"]])
        self.check_own(("one", ["ns", "any"]), [[], [1]])
        self.check_own(("one", ["ns"]), [["x"]])
        self.check_own(("not", "ns"), [[], [1]])
        self.check_own(("look", "a", "x", "rec", "none"), [{"a": "x", "b": "x"}, {"a": "x", "c": 1}, {"a": 1}, 1, []])
        self.check_own(("look", "a", "y", "any", "ns"), [["x"], {"a": "x"}])


class RowTest(Checks):
    def test_no_part(self):
        self.check_own(("row", []), [1, "a", {}, [1], [[]], [1, 2]])

    def test_several_parts(self):
        self.check_own(("row", [("n", 0, None), ("n", 0, None)]), [["x"], [1, "x"], 1, {}])
        self.check_own(("row", [("n", 1, 1), ("ns", 1, 1)]), [[1, ["x"]], ["x", [1]], [1], []])
        self.check_own(("row", [("n", 1, 1)] * 4), [[1, 1, 1], [1, 1, 1, "x"]])

    def test_one_part_and_no_row(self):
        self.check_own(("row", [("n", 0, None)]), [1, "x", {}, {"a": 1}])

    def test_one_part_and_too_few_or_too_many(self):
        self.check_own(("row", [("n", 2, 3)]), [[], [1], ["x"], [1] * 4, ["x"] * 4, [1, 1, 1, "x"]])
        self.check_own(("row", [("n", 1, None)]), [[]])

    def test_the_first_thing_that_is_barred(self):
        form = [("form", ("row", [("n", 1, None)]))]
        self.check(form, ["x"], [0], 3)
        self.check(form, [1, 10, "x"], [1], 3)
        self.check(form, [1, 2, 3, 4, -1], [4], 3)
        self.check([("form", ("row", [("none", 0, 3)]))], [1, 2], [0], 2)

    def test_rows_in_rows(self):
        form = [("form", ("row", [("ns", 0, None)]))]
        self.check(form, [[], [1, 2, "x"], ["x"]], [1, 2], 3)
        self.check(form, [[1], [1, 2, 3, "x"]], [1], 5)
        self.check(form, [[], 1], [1], 5)


class RecordTest(Checks):
    def test_no_record(self):
        self.check_own(("record", [("a", False, "n")], True), [1, "a", [], [{}]])

    def test_fields_missing(self):
        form = ("record", [("a", True, "n"), ("b", True, "n")], False)
        self.check_own(form, [{}, {"a": 1}, {"b": 1}, {"a": "x"}, {"c": 1}, {"a": "x", "c": 1}])
        self.check_own(("record", [("z", True, "n")], True), [{}, {"a": 1}])

    def test_a_field_that_is_not_told(self):
        form = [("form", ("record", [("b", False, "n")], False))]
        self.check(form, {"a": 1}, ["a"], 8)
        self.check(form, {"b": 1, "c": [1]}, ["c"], 8)
        self.check([("form", ("record", [], False))], {"bb": 1, "c": 2}, ["c"], 8)

    def test_a_field_whose_thing_is_barred(self):
        form = [("form", ("record", [("b", False, "n"), ("a", True, "rec")], True))]
        self.check(form, {"a": {"a": "x"}, "b": "x"}, ["b"], 3)
        self.check(form, {"a": {"a": "x", "b": 10}, "b": 1}, ["a", "b"], 3)
        self.check(form, {"a": {"a": "x", "d": 1}}, ["a", "d"], 6)
        self.check(form, {"a": {"b": 1}}, ["a"], 6)

    def test_several_faults(self):
        faults = [("b", "x", 3), ("aa", 1, 4), ("ab", 1, 8), ("aaa", [], 3), ("ba", 1, 8)]
        form = [("form", ("record", [("aaa", False, "n"), ("b", False, "n"), ("aa", True, "w"), ("c", True, "any")], False))]
        order = {"b": 0, "c": 1, "aa": 2, "ab": 3, "ba": 4, "aaa": 5}
        for count in (1, 2, 3, 5):
            for chosen in itertools.permutations(faults, count):
                record = {"aa": "x"}
                record.update((field, thing) for field, thing, _ in chosen)
                record["c"] = 0
                first = min(chosen, key=lambda fault: order[fault[0]])
                self.check(form, record, [first[0]], first[2])

    def test_through_all(self):
        form = [("form", ("all", ["any", "wide", "rec", "none"]))]
        self.check(form, 1, [], 7)
        self.check(form, {"c": [1, "x"]}, ["c", 1], 3)
        self.check(form, {"c": [1]}, [], 6)
        self.check(form, {"a": "x", "c": [1]}, ["c"], 6)
        self.check(form, {"a": "x", "b": 1}, [], 2)
        self.check([("form", ("all", ["more", "any"])), ("more", ("all", ["rec"]))], {"a": 5}, ["a"], 4)
        self.check([("form", ("all", ["rec", "ns"]))], ["x"], [], 6)
        self.check([("form", ("all", ["ns", "rec"]))], ["x"], [0], 3)

    def test_within_one_another(self):
        added = [
            ("form", ("row", [("node", 1, None)])),
            ("node", ("all", ["wide", "kids"])),
            ("kids", ("record", [("kids", False, "form"), ("name", True, "w")], True)),
        ]
        self.check(added, [{"name": "x"}, {"name": "x", "kids": [{"name": "y"}]}], [1, "kids", 0, "name"], 4)
        self.check(added, [{"name": "x", "kids": []}], [0, "kids"], 8)
        self.check(added, [{"name": "x", "kids": [{"name": "x", "kids": [{}]}]}], [0, "kids", 0, "kids", 0], 10)
        self.check(added, [{"name": "x", "kids": [{"name": "x", "c": ["x"]}]}], [0, "kids", 0, "c", 0], 3)

    def test_no_further_in_than_some(self):
        added = [("form", ("row", [("either", 0, None)])), ("either", ("some", ["n", "form"]))]
        self.check(added, [1, [1, [["x"]]]], [1], 9)


class RowNumberTest(unittest.TestCase):
    def test_the_row_is_that_of_the_text(self):
        for forms in itertools.permutations(BASE):
            if forms[0][0] not in ("rec", "n"):
                continue
            row = 1 + [name for name, _ in forms].index("n")
            self.assertEqual(bar(list(forms), "rec", {"a": "x", "b": 10}), (["b"], row))


class RandomTest(unittest.TestCase):
    THINGS = all_things([0, 1, -2, "a", "b", "c"], ["a", "b", "c"], 3) + [
        nested(4, 1), [[1], [2, ["a"]], {"a": [0, "c"]}], {"a": {"a": {"b": 1}}, "b": [1, 1, {"a": "b"}]},
        {"a": [[]], "b": ["a", 1], "c": {"a": {}}}, [{"a": 0}, {"b": []}, {"c": {"a": "a"}}],
    ]

    def test_against_forms_at_random(self):
        chance = random.Random(8)
        for _ in range(80):
            forms = random_forms(chance, chance.randint(1, 9))
            for thing in chance.sample(self.THINGS, 40) + self.THINGS[-5:]:
                for name, _ in forms:
                    told = bar(forms, name, thing)
                    self.assertEqual(told, plain_bar(forms, name, thing), (forms, name, thing))
                    self.assertIs(told is None, lets(forms, name, thing))

    def test_whatever_has_a_like_thing_at_the_place_is_barred(self):
        chance = random.Random(9)
        reached = 0
        for _ in range(80):
            forms = random_forms(chance, chance.randint(2, 9))
            for thing in chance.sample(self.THINGS, 20) + self.THINGS[-5:]:
                name = chance.choice(forms)[0]
                told = bar(forms, name, thing)
                if not told:
                    continue
                for other in chance.sample(self.THINGS, 20) + self.THINGS[-5:]:
                    changed = with_part(other, told[0], part_at(thing, told[0]))
                    if changed is not None:
                        reached += bool(told[0])
                        self.assertIs(lets(forms, name, changed), False, (forms, name, thing, changed))
        self.assertGreater(reached, 500)

    def test_deep_things(self):
        forms = [("rows", ("row", [("rows", 0, None)]))]
        self.assertEqual(bar(forms, "rows", nested(20, 1)), ([0] * 20, 1))
        self.assertIsNone(bar(forms, "rows", nested(3000, [])))
        self.assertEqual(bar(forms, "rows", nested(3000, "a")), ([0] * 3000, 1))


def part_at(thing, place):
    for part in place:
        thing = thing[part]
    return thing


def with_part(thing, place, part):
    """The thing with another part at the place; None where it has no such place, and none could be made."""
    if not place:
        return copy.deepcopy(part)
    thing = copy.deepcopy(thing)
    holder = thing
    for step in place[:-1]:
        if isinstance(holder, dict) != isinstance(step, str) or not isinstance(holder, (list, dict)):
            return None
        if isinstance(holder, list) and step >= len(holder) or isinstance(holder, dict) and step not in holder:
            return None
        holder = holder[step]
    last = place[-1]
    if isinstance(holder, dict) and isinstance(last, str):
        holder[last] = copy.deepcopy(part)
    elif isinstance(holder, list) and isinstance(last, int):
        while len(holder) <= last:
            holder.append(0)
        holder[last] = copy.deepcopy(part)
    else:
        return None
    return thing


if __name__ == "__main__":
    unittest.main()
