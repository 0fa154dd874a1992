"""Points 1 to 3: names, the size of things and their order."""

import copy
import functools
import inspect
import itertools
import unittest

from recordgate.things import compared, is_name, order_key, size_of
from tests.helper import all_things, nested, plain_compared, plain_size


class NamesTest(unittest.TestCase):
    def test_names(self):
        for text in ("a", "z", "row", "abcdefgh", "zzzzzzzz"):
            self.assertTrue(is_name(text), text)

    def test_no_names(self):
        for text in ("", "abcdefghi", "A", "aB", "a1", "a b", "a\n", "-", "\u00e9", "\u0430", "a" * 100000):
            self.assertFalse(is_name(text), text[:20])


class SizeTest(unittest.TestCase):
    def test_signature(self):
        self.assertEqual(list(inspect.signature(size_of).parameters), ["thing"])

    def test_numbers_and_words(self):
        for thing in (0, 7, -7, 10**60 - 1, -(10**60), "a", "abcdefgh"):
            self.assertEqual(size_of(thing), 1)

    def test_empty_ones(self):
        self.assertEqual(size_of([]), 1)
        self.assertEqual(size_of({}), 1)

    def test_rows(self):
        self.assertEqual(size_of([5]), 2)
        self.assertEqual(size_of([5, 5, 5]), 4)
        self.assertEqual(size_of([[]]), 2)
        self.assertEqual(size_of([[], [[]], "a"]), 5)

    def test_records(self):
        self.assertEqual(size_of({"a": 1}), 2)
        self.assertEqual(size_of({"a": 1, "abcdefgh": "abcdefgh"}), 3)
        self.assertEqual(size_of({"a": {"b": {}}, "c": [1, {"d": 2}]}), 7)

    def test_as_told_a_second_time(self):
        for thing in all_things([1, "a"], ["a", "b"], 5):
            self.assertEqual(size_of(thing), plain_size(thing))

    def test_greater_ones_that_the_program_may_have_told(self):
        self.assertEqual(size_of([1] * 5000), 5001)
        self.assertEqual(size_of(nested(5000, {})), 5001)


class ComparedTest(unittest.TestCase):
    def check_rising(self, things):
        """Each of the things is less than all behind it, and like itself and its copy."""
        for k, one in enumerate(things):
            self.assertEqual(compared(one, one), 0)
            self.assertEqual(compared(one, copy.deepcopy(one)), 0)
            for other in things[k + 1:]:
                with self.subTest(one=one, other=other):
                    self.assertEqual(compared(one, other), -1)
                    self.assertEqual(compared(other, one), 1)

    def test_signature(self):
        self.assertEqual(list(inspect.signature(compared).parameters), ["one", "other"])

    def test_kind_of_the_answer(self):
        for answer in (compared(1, 2), compared(2, 2), compared(2, 1)):
            self.assertIs(type(answer), int)

    def test_by_size_first(self):
        self.check_rising([10**60, [0], [0, 0], {"a": 0, "b": 0, "c": 0}, [0, 0, 0, 0]])
        self.check_rising(["zzzzzzzz", {"a": 1}, [[[]]]])

    def test_by_sort_at_one_size(self):
        self.check_rising([999, "a", [], {}])
        self.check_rising([[{}], {"a": 0}])
        self.check_rising([["z", "z"], {"a": [0]}])

    def test_numbers(self):
        self.check_rising([0, 1, -1, 2, -2, 9, -9, 10, -10, 10**59, -(10**59), 10**60 - 1, 1 - 10**60, 10**60])

    def test_words(self):
        self.check_rising(["a", "b", "z", "aa", "ab", "ba", "zz", "aaa", "aaaaaaaa", "aaaaaaab", "zzzzzzzz"])

    def test_rows_by_the_first_unlike_place(self):
        self.check_rising([[0, 9], [1, 0], [-1, 0], ["a", 0], ["b", 0], [[], 0], [{}, 0]])
        self.check_rising([[1, 2, 3], [1, 2, -3], [1, 3, 2], [2, 1, 1]])

    def test_rows_of_one_size_and_unlike_lengths(self):
        # Three things or two, at one size: the first place says which, not the number of things.
        self.check_rising([[1, 1, 1], [1, [1]], [2, 0, 0], [2, [0]], [[1], 1], [[[1]]]])
        self.check_rising([["z", {}, "z"], ["z", [0]], ["z", {"a": 0}]])

    def test_rows_within_rows(self):
        self.check_rising([[[1, 2], 9], [[1, 3], 0], [[-1, 0], 0]])
        self.check_rising([[[[1, "a"]], 5], [[[1, "b"]], 0]])

    def test_records_by_fields(self):
        self.check_rising([{"a": 9}, {"b": 0}, {"z": 0}, {"aa": 0}, {"ab": 0}, {"aaa": 0}])

    def test_records_by_things_where_fields_are_alike(self):
        self.check_rising([{"a": 0}, {"a": 1}, {"a": -1}, {"a": "a"}, {"a": []}, {"a": {}}])

    def test_records_place_by_place(self):
        # The thing at the first field is looked at ahead of the second field.
        self.check_rising([{"a": 1, "z": 9}, {"a": 2, "b": 0}])
        self.check_rising([{"a": 1, "b": 9}, {"a": 1, "c": 0}, {"a": 2, "b": 0}, {"b": 0, "c": 0}])
        self.check_rising([{"z": 1, "aa": 1}, {"z": 1, "ab": 0}, {"z": 2, "aa": 0}, {"aa": 0, "ab": 0}])

    def test_records_of_one_size_and_unlike_lengths(self):
        self.check_rising([{"a": 1, "b": 1, "c": 1}, {"a": 1, "b": [1]}, {"a": 2, "b": 0, "c": 0}, {"a": [1], "b": 0}])
        self.check_rising([{"a": [[0]]}, {"b": 1, "c": 1, "d": 1}])

    def test_the_lesser_field_is_the_shorter_one(self):
        self.check_rising([{"b": 0, "aa": 9}, {"b": 1, "aa": 0}])

    def test_order_in_which_fields_came_says_nothing(self):
        thing = {"a": 1, "b": {"x": 1, "yy": 2}, "aa": 3}
        for fields in itertools.permutations(thing):
            other = {field: thing[field] for field in fields}
            other["b"] = {"yy": 2, "x": 1}
            self.assertEqual(compared(thing, other), 0)
            self.assertEqual(compared(other, {"a": 1, "b": {"x": 1, "yy": 3}, "aa": 0}), -1)
            self.assertEqual(compared({"a": 1, "b": {"x": 1, "yy": 3}, "aa": 0}, other), 1)

    def test_as_told_a_second_time(self):
        things = all_things([0, -1, "b", "aa"], ["b", "aa"], 3)
        for one in things:
            for other in things:
                self.assertEqual(compared(one, other), plain_compared(one, other), (one, other))

    def test_greater_ones_as_told_a_second_time(self):
        things = all_things([1, "a"], ["a", "b"], 5)
        for step in (1, 7, 61, 500):
            for one, other in zip(things, things[step:]):
                self.assertEqual(compared(one, other), plain_compared(one, other), (one, other))

    def test_one_order_of_all(self):
        things = all_things([1, -1, "a"], ["a", "c", "b"], 3)
        by_key = sorted(things, key=order_key)
        self.assertEqual(by_key, sorted(reversed(things), key=functools.cmp_to_key(compared)))
        for one, other in zip(by_key, by_key[1:]):
            self.assertEqual(compared(one, other), -1)

    def test_greater_ones_that_the_program_may_have_told(self):
        deep = [nested(5000, 1), nested(5000, 2), nested(5001, 0)]
        for one, other in zip(deep, deep[1:]):
            self.assertEqual((compared(one, other), compared(other, one)), (-1, 1))
        self.assertEqual(compared(nested(5000, {}), nested(5000, {})), 0)
        self.check_rising([[0] * 5000 + [1], [0] * 5000 + [-1], [0] * 5002])
        self.check_rising(["abcdefghi", "abcdefghj"])


class NothingChangedTest(unittest.TestCase):
    def test_what_is_handed_in_stays(self):
        thing = {"b": [3, {"z": 1, "a": "x"}, []], "a": {}, "aa": -5}
        before = copy.deepcopy(thing)
        size_of(thing)
        compared(thing, copy.deepcopy(thing))
        compared(thing, [thing])
        self.assertEqual(thing, before)
        self.assertEqual(list(thing), ["b", "a", "aa"])
        self.assertEqual(list(thing["b"][1]), ["z", "a"])

    def test_an_answer_follows_the_thing_as_it_is_now(self):
        thing = [1, [2]]
        self.assertEqual(size_of(thing), 4)
        thing[1].append(3)
        self.assertEqual(size_of(thing), 5)
        self.assertEqual(compared(thing, [1, [2]]), 1)


if __name__ == "__main__":
    unittest.main()
