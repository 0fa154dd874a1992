"""Point 19: texts are judged, and which refusal is told first."""

import inspect
import random
import unittest

from recordgate.errors import BadRow, BadThing, GateError, Loop, NoForm
from recordgate.formtext import forms_text
from recordgate.hall import judged
from recordgate.thingtext import thing_text
from tests.helper import all_things, nested, plain_bar, random_forms

TEXT = """tree some leaf fork
leaf number 0 9
fork record closed must l tree must r tree may top word
word word
list row leaf 1 3
grid row list 0 -
book record open must grid grid may page list must a book may zz one
both all any grid book
any any
none not any
one one leaf word
see look top a fork none"""
ROWS = {line.split(" ")[0]: number for number, line in enumerate(TEXT.split("\n"), 1)}

REFUSALS = (BadRow, NoForm, Loop, BadThing)
BAD_THINGS = ["", "?", "[1,2]", "{b: 1, a: 2}", "-0", "01", " 1", "1 ", "[", "abcdefghi", "{a: 1, a: 1}", "1\n", "9" * 61]


class JudgedTest(unittest.TestCase):
    def check(self, name, thing, expected):
        told = judged(TEXT, name, thing)
        self.assertEqual((told, type(told)), (expected, str), (name, thing))

    def test_arguments(self):
        self.assertEqual(list(inspect.signature(judged).parameters), ["text", "name", "thing_text"])

    def test_let_by(self):
        for name, thing in [
            ("tree", "0"), ("tree", "{l: 1, r: {l: 2, r: 3}}"), ("fork", "{l: 1, r: 2, top: x}"), ("word", "word"), ("word", "by"),
            ("list", "[1, 2, 3]"), ("grid", "[]"), ("grid", "[[1], [2, 3]]"), ("any", "{}"), ("any", "-5"), ("one", "x"),
            ("see", "{l: 1, r: 2, top: a}"), ("any", "[[[[{a: [b, -1]}]]]]"), ("any", "9" * 60), ("any", "-" + "9" * 60),
        ]:
            self.check(name, thing, "let by")

    def test_barred_at_the_top(self):
        for name, thing in [
            ("leaf", "10"), ("leaf", "-1"), ("leaf", "top"), ("tree", "[]"), ("tree", "{l: 1, r: {l: 2}}"), ("word", "1"),
            ("list", "[]"), ("list", "[1, 2, 3, 4]"), ("list", "1"), ("fork", "{}"), ("fork", "{l: 1, top: x}"), ("fork", "l"),
            ("none", "1"), ("none", "[[]]"), ("one", "[]"), ("see", "{l: 1, r: 2, top: b}"), ("see", "{l: 1, r: 2}"),
        ]:
            self.check(name, thing, f"barred at top by row {ROWS[name]}")

    def test_barred_at_places_of_one_part(self):
        for name, thing, place, row in [
            ("list", "[10]", "0", "leaf"), ("list", "[1, 2, x]", "2", "leaf"), ("grid", "[[1], 1]", "1", "list"),
            ("grid", "[[]]", "0", "list"), ("fork", "{l: x, r: x}", "l", "tree"), ("fork", "{l: 1, r: x}", "r", "tree"),
            ("fork", "{l: 1, r: 2, top: 3}", "top", "word"), ("fork", "{a: 1, l: 1, r: 2}", "a", "fork"),
            ("fork", "{l: 1, r: 2, tops: 2}", "tops", "fork"), ("fork", "{l: x, r: 2, abcdefgh: 2}", "l", "tree"),
            ("both", "[1]", "0", "list"), ("book", "{a: 1, grid: []}", "a", "book"), ("book", "{a: {}, grid: []}", "a", "book"),
        ]:
            self.check(name, thing, f"barred at {place} by row {ROWS[row]}")

    def test_barred_at_places_of_several_parts(self):
        within = "{a: 1, grid: [[2], [3, 4, x]]}"
        for name, thing, place, row in [
            ("grid", "[[1], [1, 10]]", "1.1", "leaf"), ("grid", "[[1, 2, []]]", "0.2", "leaf"),
            ("both", "[[1], [1, -1]]", "1.1", "leaf"),
            ("book", "{a: {a: 1, grid: []}, grid: []}", "a.a", "book"),
            ("book", "{a: {a: {a: 1, grid: []}, grid: []}, grid: 1}", "a.a.a", "book"),
            ("book", "{a: {a: {b: 1, grid: []}, grid: []}, grid: []}", "a.a", "book"),
            ("book", "{a: " + within + ", grid: []}", "a.a", "book"),
        ]:
            self.check(name, thing, f"barred at {place} by row {ROWS[row]}")

    def test_places_of_fields_and_numbers(self):
        text = "a record open may f b may top c\nb row c 0 -\nc record open may x d\nd row e 1 1\ne number 0 0"
        for name, thing, expected in [
            ("a", "{f: [{}, {x: [1]}]}", "barred at f.1.x.0 by row 5"),
            ("a", "{f: [{}, {x: [0]}, 1]}", "barred at f.2 by row 3"),
            ("a", "{f: [{}, {x: [0]}, {x: []}]}", "barred at f.2.x by row 4"),
            ("a", "{top: {x: []}}", "barred at top.x by row 4"),
            ("a", "{top: 1}", "barred at top by row 3"),
            ("a", "1", "barred at top by row 1"),
            ("b", "[{x: [{}]}]", "barred at 0.x.0 by row 5"),
            ("b", "[" + "{}, " * 12 + "{x: [5]}]", "barred at 12.x.0 by row 5"),
            ("a", "{f: [{}, {x: [0]}, {y: []}], top: {x: [0]}}", "let by"),
        ]:
            self.assertEqual(judged(text, name, thing), expected)

    def test_rows_of_two_figures(self):
        text = "\n".join([f"a{letter} row {name} 0 -" for letter, name in zip("abcdefghijklmnopqrstuvw", "b" * 23)] + ["b word"])
        self.assertEqual(judged(text, "b", "1"), "barred at top by row 24")
        self.assertEqual(judged(text, "al", "[x, x, 1]"), "barred at 2 by row 24")
        self.assertEqual(judged(text, "aj", "1"), "barred at top by row 10")

    def test_a_long_place(self):
        thing = thing_text(nested(19, "x"))
        self.assertEqual(judged("a some b c\nb row a 1 1\nc number - -", "b", thing), "barred at 0 by row 1")
        self.assertEqual(judged("b row b 1 1", "b", thing), "barred at " + ".".join(["0"] * 19) + " by row 1")
        record = "{abcdefgh: " * 19 + "1" + "}" * 19
        self.assertEqual(judged("b record closed must abcdefgh b", "b", record), "barred at " + ".".join(["abcdefgh"] * 19) + " by row 1")

    def test_forms_at_random(self):
        chance = random.Random(61)
        things = all_things([0, 1, -2, "a", "b"], ["a", "b", "g"], 4)
        words = []
        for _ in range(80):
            forms = random_forms(chance, chance.randint(1, 24))
            for thing in chance.sample(things, 6):
                name = chance.choice(forms)[0]
                told = judged(forms_text(forms), name, thing_text(thing))
                found = plain_bar(forms, name, thing)
                expected = "let by"
                if found:
                    expected = "barred at " + (".".join(map(str, found[0])) or "top") + " by row " + str(found[1])
                self.assertEqual(told, expected)
                words.append(told.split(" ")[2:3])
        self.assertGreater(words.count([]), 50)
        self.assertGreater(len([word for word in words if word not in ([], ["top"])]), 10)


class RefusalTest(unittest.TestCase):
    def check(self, refusal, text, name, thing, /, **fields):
        """The refusal is of its own class alone, and bears its fields."""
        with self.assertRaises(ValueError) as caught:
            judged(text, name, thing)
        error = caught.exception
        self.assertIsInstance(error, GateError)
        self.assertEqual([isinstance(error, other) for other in REFUSALS], [other == refusal for other in REFUSALS], (text, name, thing))
        self.assertEqual({field: getattr(error, field) for field in fields}, fields, (text, name, thing))

    def test_bad_rows(self):
        for text, row in [("", 1), ("a", 1), ("a any\nb", 2), ("a any\n", 2), ("a any\nb number 2 1", 2), ("a any\na any", 2),
                          ("a any\nb row a 0 5", 2), ("a word x x", 1), ("a any \nb", 1), ("A any", 1),
                          ("\n".join("a" * k + " any" for k in range(1, 9)) + "\nx any y", 9)]:
            self.check(BadRow, text, "a", "1", row=row)

    def test_the_twenty_fifth_row(self):
        rows = [letter + " any" for letter in "abcdefghijklmnopqrstuvwxy"]
        self.check(BadRow, "\n".join(rows), "a", "1", row=25)
        self.assertEqual(judged("\n".join(rows[:24]), "a", "1"), "let by")

    def test_names_that_no_row_has(self):
        for text, row, name in [("a not b", 1, "b"), ("a any\nb all a c d", 2, "c"), ("a row x 0 - y 0 -", 1, "x"),
                                ("a record open may q a must r s", 1, "s"), ("a look x y a z", 1, "z")]:
            self.check(NoForm, text, "a", "1", row=row, name=name)

    def test_loops(self):
        for text, row in [("a not a", 1), ("b not a\na all c\nc look x y a d\nd any", 2), ("b any\na some b a", 2)]:
            self.check(Loop, text, "a", "1", row=row)

    def test_a_name_that_is_no_forms(self):
        for name in ("x", "aa", "", "A", "a ", " a", "any", "word", "f", "v", "0", "top", "a\n", "abcdefghi"):
            self.check(NoForm, "a word v\nb record open may f a\nc not a", name, "1", row=0, name=name)

    def test_bad_things(self):
        for thing in BAD_THINGS:
            self.check(BadThing, "a any", "a", thing)
            self.check(BadThing, TEXT, "none", thing)

    def test_bounds_of_things(self):
        for thing, is_thing in [(nested(19, 1), True), (nested(20, 1), False), ([1] * 99, True), ([1] * 100, False),
                                (10**60 - 1, True), (10**60, False), (-(10**60), False)]:
            if is_thing:
                self.assertEqual(judged("a any", "a", thing_text(thing)), "let by")
            else:
                self.check(BadThing, "a any", "a", thing_text(thing))
        self.check(BadThing, "a any", "a", "[" * 5000)

    def test_two_faults_at_once(self):
        for thing in BAD_THINGS:
            self.check(NoForm, "a any", "b", thing, row=0, name="b")
            self.check(Loop, "a not a", "a", thing, row=1)
            self.check(NoForm, "a any\nc not d", "a", thing, row=2, name="d")
            self.check(BadRow, "a any\nc nott a", "a", thing, row=2)
        self.check(Loop, "a any\nc not c", "b", "1", row=2)
        self.check(NoForm, "a any\nc not d", "d", "1", row=2, name="d")
        self.check(NoForm, "a any\nc not d", "b", "1", row=2, name="d")
        self.check(BadRow, "a any\nc nott a", "b", "1", row=2)
        self.check(NoForm, "a not a\nc not d", "a", "1", row=2, name="d")
        self.check(BadRow, "a not a\nc", "a", "1", row=2)
        self.check(BadRow, "a not b\nc", "a", "1", row=2)

    def test_three_and_more_faults_at_once(self):
        for thing in BAD_THINGS[:4]:
            self.check(Loop, "a any\nc not c", "b", thing, row=2)
            self.check(NoForm, "a any\nc not d", "d", thing, row=2, name="d")
            self.check(BadRow, "a any\nc nott a", "b", thing, row=2)
            self.check(NoForm, "a not a\nc not d", "a", thing, row=2, name="d")
            self.check(BadRow, "a not b\nb", "a", thing, row=2)
            self.check(BadRow, "a not a\nb not c\nd", "x", thing, row=3)
        self.check(BadRow, "a not a\nb not c\nd", "a", "1", row=3)
        self.check(NoForm, "a not a\nb not c\nd any", "x", "", row=2, name="c")
        self.check(Loop, "a not a\nb not d\nd any", "x", "", row=1)
        self.check(NoForm, "b not d\nd any", "x", "", row=0, name="x")
        self.check(BadThing, "b not d\nd any", "b", "")


if __name__ == "__main__":
    unittest.main()
