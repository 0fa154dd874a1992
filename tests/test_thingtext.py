"""Points 1, 2 and 17: the texts of things, written and read."""

import copy
import inspect
import itertools
import unittest

from recordgate.errors import BadThing
from recordgate.thingtext import thing_of, thing_text
from tests.helper import all_things, nested, plain_depth, plain_size

WRITTEN = [
    (0, "0"),
    (7, "7"),
    (10, "10"),
    (-1, "-1"),
    (-120, "-120"),
    (10**60 - 1, "9" * 60),
    (1 - 10**60, "-" + "9" * 60),
    ("a", "a"),
    ("abcdefgh", "abcdefgh"),
    ([], "[]"),
    ({}, "{}"),
    ([1], "[1]"),
    ([1, "a", []], "[1, a, []]"),
    ([[], {}, [{}], [[]]], "[[], {}, [{}], [[]]]"),
    ([-5, [-6, ["b"]], 0], "[-5, [-6, [b]], 0]"),
    ({"a": 1}, "{a: 1}"),
    ({"a": 1, "b": ["x"]}, "{a: 1, b: [x]}"),
    ({"a": {}, "b": {"c": {"d": -1}}}, "{a: {}, b: {c: {d: -1}}}"),
    ([{"a": 1}, {"a": 1, "b": []}], "[{a: 1}, {a: 1, b: []}]"),
    ({"b": 1, "aa": 2, "ab": 3, "aaa": 4}, "{b: 1, aa: 2, ab: 3, aaa: 4}"),
]

NOT_WRITTEN = [
    "", " ", "\n", "\t",
    # numbers
    "00", "01", "-01", "-0", "-00", "-", "--1", "+1", "+", "1-", "1-1", "1.0", "1_0", "1e1", "0x1", "- 1", "1 1",
    # words
    "A", "aB", "Abc", "a1", "1a", "a-b", "-a", "a_b", "a b", "a.b", "\"a\"", "'a'", "?", "~", "!", "None ", "True",
    "\u00e9", "\u0430", "\u0661", "\u00b2", "\uff11", "a\u00e9",
    # blanks and line feeds
    " 1", "1 ", " a", "a ", "1\n", "\n1", "a\n", "[]\n", "\n[]", "[ ]", "{ }", "[\n]", "[1,\n2]", "[1\n, 2]",
    "[1,2]", "[1,  2]", "[1 , 2]", "[ 1, 2]", "[1, 2 ]", "[1 2]", "[1,\t2]", " []", "[] ", "{} ", " {}",
    "{a:1}", "{a:  1}", "{a : 1}", "{ a: 1}", "{a: 1 }", "{a: 1,b: 2}", "{a: 1,  b: 2}", "{a: 1 , b: 2}",
    "{a:\n1}", "{a 1}", "{a}", "{a:}", "{a: }", "{a: 1 b: 2}",
    # fields
    "{b: 1, a: 2}", "{a: 1, a: 1}", "{a: 1, a: 2}", "{aa: 1, b: 2}", "{a: 1, c: 2, b: 3}", "{a: 1, b: 2, a: 3}",
    "{A: 1}", "{a1: 1}", "{1: a}", "{-: 1}", "{: 1}", "{[]: 1}", "{\"a\": 1}", "{a: {b: 1, b: 2}}", "[{b: 1, a: 1}]",
    # brackets and commas
    "[", "]", "{", "}", "[[]", "[]]", "{a: {}", "{}}", "[}", "{]", "[1}", "{a: 1]", "[{]}", "{a: [}]", "(1)", "()",
    "[1", "[1, ", "[1,", "{a", "{a:", "{a: ", "{a: 1", "{a: 1, ", "{a: 1,",
    "[1, ]", "[1,]", "[, 1]", "[,]", "[, ]", "[1, , 2]", "{a: 1, }", "{a: 1,}", "{, a: 1}", "{,}", ",", ", ", ":", ": ",
    "[a: 1]", "{1, 2}", "{1}",
    # something behind the thing
    "1, 2", "1, ", "a, b", "[] []", "[][]", "{}{}", "[]1", "1[]", "a[]", "[]a", "a: 1", "{}, {}", "1]", "a}",
]


class Checks(unittest.TestCase):
    def check_refused(self, text):
        with self.subTest(text=text[:80]), self.assertRaises(BadThing):
            thing_of(text)

    def check_same(self, one, other):
        """Like things, and of the same sorts throughout."""
        self.assertEqual(one, other)
        self.assertEqual(repr(one), repr(other))


class WrittenTest(Checks):
    def test_signature(self):
        self.assertEqual(list(inspect.signature(thing_text).parameters), ["thing"])

    def test_each_sort_of_thing(self):
        for thing, text in WRITTEN:
            with self.subTest(text=text):
                self.assertEqual(thing_text(thing), text)

    def test_lesser_field_first_whatever_came_first(self):
        fields = ["b", "z", "aa", "ba", "aaa"]
        for order in itertools.permutations(fields):
            record = {field: fields.index(field) for field in order}
            self.assertEqual(thing_text(record), "{b: 0, z: 1, aa: 2, ba: 3, aaa: 4}")

    def test_greater_ones_that_the_program_may_have_told(self):
        self.assertEqual(thing_text(-(10**60)), "-1" + "0" * 60)
        self.assertEqual(thing_text([1] * 5000), "[" + "1, " * 4999 + "1]")
        self.assertEqual(thing_text(nested(5000, {})), "[" * 5000 + "{}" + "]" * 5000)


class ReadTest(Checks):
    def test_signature(self):
        self.assertEqual(list(inspect.signature(thing_of).parameters), ["text"])

    def test_each_sort_of_thing(self):
        for thing, text in WRITTEN:
            with self.subTest(text=text):
                self.check_same(thing_of(text), thing)

    def test_sorts(self):
        self.assertIs(type(thing_of("1")), int)
        self.assertIs(type(thing_of("a")), str)
        self.assertIs(type(thing_of("[]")), list)
        self.assertIs(type(thing_of("{}")), dict)
        self.assertEqual([type(part) for part in thing_of("[0, a, [], {}]")], [int, str, list, dict])

    def test_words_that_mean_something_elsewhere(self):
        for word in ("true", "none", "any", "number", "row", "top", "null"):
            self.check_same(thing_of(word), word)

    def test_what_was_written_is_read_and_written_again(self):
        for thing in all_things([0, -12, "b", "aa"], ["b", "aa"], 4):
            text = thing_text(thing)
            self.check_same(thing_of(text), thing)
            self.assertEqual(thing_text(thing_of(text)), text)

    def test_what_is_not_so_written(self):
        for text in NOT_WRITTEN:
            self.check_refused(text)

    def test_every_short_text(self):
        # Of these signs: the texts that are read are just those that are written of a thing.
        atoms = [0, 1, -1, 10, -10, 11, -11, 100, -100, 101, 110, 111, "a", "aa", "aaa"]
        texts = {thing_text(thing) for thing in all_things(atoms, ["a"], 4)}
        for long in range(7):
            for signs in itertools.product("[]{},: 01-a" if long < 6 else "[]{}: a", repeat=long):
                self.check_as_written("".join(signs), texts)

    def check_as_written(self, text, texts):
        try:
            thing = thing_of(text)
        except BadThing:
            self.assertNotIn(text, texts)
        else:
            self.assertEqual(thing_text(thing), text)

    def test_one_sign_changed(self):
        text = "{a: [1, -20, {}], bb: {c: xy, d: []}}"
        for place in range(len(text) + 1):
            for sign in ["", " ", "\n", ",", ":", "-", "0", "a", "A", "[", "]", "{", "}", "_"]:
                for changed in (text[:place] + sign + text[place:], text[:place] + sign + text[place + 1:]):
                    self.check_as_written(changed, {text})


class BoundsTest(Checks):
    def test_figures(self):
        for figures in ("9" * 60, "1" + "0" * 59):
            for sign in ("", "-"):
                self.check_same(thing_of(sign + figures), int(sign + figures))
                self.check_same(thing_of("[" + sign + figures + "]"), [int(sign + figures)])
        for figures in ("9" * 61, "1" + "0" * 60, "0" * 61, "0" + "1" * 60, "1" * 4299, "1" * 4301, "9" * 50000):
            for sign in ("", "-"):
                self.check_refused(sign + figures)
                self.check_refused("{a: " + sign + figures + "}")

    def test_letters(self):
        self.check_same(thing_of("abcdefgh"), "abcdefgh")
        self.check_same(thing_of("{abcdefgh: abcdefgh}"), {"abcdefgh": "abcdefgh"})
        for word in ("abcdefghi", "aaaaaaaaa", "a" * 50000):
            self.check_refused(word)
            self.check_refused("[" + word + "]")
            self.check_refused("{" + word + ": 1}")
            self.check_refused("{a: " + word + "}")

    def test_size_of_rows(self):
        self.check_same(thing_of("[" + "1, " * 98 + "1]"), [1] * 99)
        self.check_refused("[" + "1, " * 99 + "1]")
        self.check_same(thing_of("[[" + "a, " * 96 + "a], []]"), [["a"] * 97, []])
        self.check_refused("[[" + "a, " * 97 + "a], []]")

    def test_size_of_records(self):
        fields = [first + second for first in "abcdefghij" for second in "abcdefghij"]
        for many, within in ((98, True), (99, True), (100, False)):
            record = {field: 5 for field in fields[:many]}
            if within:
                self.check_same(thing_of(thing_text(record)), record)
            else:
                self.check_refused(thing_text(record))

    def test_size_of_what_is_made_of_both(self):
        thing = [{"a": [k]} for k in range(33)]
        self.assertEqual(plain_size(thing), 100)
        self.check_same(thing_of(thing_text(thing)), thing)
        self.check_refused(thing_text(thing + [[]]))
        thing[0]["a"].append([])
        self.check_refused(thing_text(thing))

    def test_depth(self):
        for inside in (1, "a"):
            self.assertEqual(plain_depth(nested(19, inside)), 20)
            self.check_same(thing_of(thing_text(nested(19, inside))), nested(19, inside))
            self.check_refused(thing_text(nested(20, inside)))
        for inside in ([], {}):
            self.check_same(thing_of(thing_text(nested(19, inside))), nested(19, inside))
            self.check_refused(thing_text(nested(20, inside)))
        self.check_same(thing_of("[" * 20 + "]" * 20), nested(19, []))
        self.check_refused("[" * 21 + "]" * 21)

    def test_depth_of_records(self):
        self.check_same(thing_text(thing_of("{a: " * 19 + "1" + "}" * 19)), "{a: " * 19 + "1" + "}" * 19)
        self.check_same(thing_text(thing_of("{a: " * 19 + "{}" + "}" * 19)), "{a: " * 19 + "{}" + "}" * 19)
        self.check_refused("{a: " * 20 + "1" + "}" * 20)
        self.check_refused("{a: " * 20 + "[]" + "}" * 20)

    def test_depth_is_that_of_the_deepest(self):
        deepest = "[" * 18 + "1" + "]" * 18
        self.check_same(thing_text(thing_of("[1, {}, " + deepest + ", 2]")), "[1, {}, " + deepest + ", 2]")
        self.check_refused("[1, {}, [" + deepest + "], 2]")
        self.check_refused("{a: 1, b: [" + deepest + "], c: 2}")

    def test_size_and_depth_at_once(self):
        text = "[" * 19 + "1, " * 80 + "1" + "]" * 19
        self.check_same(thing_text(thing_of(text)), text)
        self.check_refused("[" * 19 + "1, " * 81 + "1" + "]" * 19)

    def test_very_much_deeper_or_longer(self):
        for many in (50, 1000, 100000):
            self.check_refused("[" * many)
            self.check_refused("[" * many + "]" * many)
            self.check_refused("{a: " * many + "1" + "}" * many)
            self.check_refused("[{a: " * many + "1" + "}]" * many)
            self.check_refused("]" * many)
            self.check_refused(" " * many)
            self.check_refused("\n" * many)
            self.check_refused("-" * many)
            self.check_refused("[" + "1, " * 2 * many + "1]")
            self.check_refused("[" + "[], " * 2 * many + "{}]")
            self.check_refused("{" + "a: 1, " * many + "b: 1}")


class NothingChangedTest(Checks):
    def test_what_is_handed_in_stays(self):
        thing = {"b": [3, {"z": 1, "a": "x"}, []], "a": {}, "aa": -5}
        before = copy.deepcopy(thing)
        thing_text(thing)
        self.check_same(thing, before)

    def test_what_was_told_is_the_askers_own(self):
        text = "{a: [1, {}], b: {c: []}}"
        first = thing_of(text)
        second = thing_of(text)
        first["a"][1]["x"] = 1
        first["a"].append(2)
        first["b"]["c"].append(3)
        first["d"] = 4
        self.check_same(second, {"a": [1, {}], "b": {"c": []}})
        self.check_same(thing_of(text), second)

    def test_parts_of_one_answer_are_apart(self):
        told = thing_of("[[], [], {}, {}, [1], [1]]")
        told[0].append(1)
        told[2]["a"] = 1
        told[4].append(2)
        self.check_same(told, [[1], [], {"a": 1}, {}, [1, 2], [1]])
        self.check_same(thing_of("[]"), [])
        self.check_same(thing_of("{}"), {})


if __name__ == "__main__":
    unittest.main()
