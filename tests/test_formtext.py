"""Points 1, 4, 5 and 18: the texts of forms, written and read, and what is refused."""

import inspect
import itertools
import random
import unittest

from recordgate.errors import BadRow, BadThing, GateError, Loop, NoForm
from recordgate.formtext import forms_of, forms_text
from tests.helper import random_forms

NINES = "9" * 60
LARGE = 10**60 - 1
KEYWORDS = "any number word row record open closed must may all some one not look".split()

# Each is written as a row behind "f ", beside the rows "a any" and "b any".
WRITTEN = [
    (("any",), "any"),
    (("number", 1, 2), "number 1 2"),
    (("number", -12, -1), "number -12 -1"),
    (("number", 0, 0), "number 0 0"),
    (("number", None, 5), "number - 5"),
    (("number", -5, None), "number -5 -"),
    (("number", None, None), "number - -"),
    (("number", -LARGE, LARGE), f"number -{NINES} {NINES}"),
    (("number", LARGE, None), f"number {NINES} -"),
    (("word", []), "word"),
    (("word", ["x"]), "word x"),
    (("word", ["zz", "a", "abcdefgh"]), "word zz a abcdefgh"),
    (("word", list("hgfedcba")), "word h g f e d c b a"),
    (("row", []), "row"),
    (("row", [("a", 0, None)]), "row a 0 -"),
    (("row", [("f", 0, 1), ("b", 4, 4)]), "row f 0 1 b 4 4"),
    (("row", [("a", 4, None), ("a", 0, 4), ("a", 1, 1), ("b", 2, 3)]), "row a 4 - a 0 4 a 1 1 b 2 3"),
    (("record", [], True), "record open"),
    (("record", [], False), "record closed"),
    (("record", [("x", True, "a")], True), "record open must x a"),
    (("record", [("x", False, "f"), ("a", True, "b")], False), "record closed may x f must a b"),
    (("record", [(field, True, "a") for field in "fedcba"], False),
     "record closed must f a must e a must d a must c a must b a must a a"),
    (("all", ["a"]), "all a"),
    (("all", ["b", "a", "b", "b", "b", "b"]), "all b a b b b b"),
    (("some", ["a", "b"]), "some a b"),
    (("one", ["a", "a"]), "one a a"),
    (("not", "a"), "not a"),
    (("look", "x", "y", "a", "b"), "look x y a b"),
    (("look", "a", "a", "a", "a"), "look a a a a"),
]

BAD_ROWS = [
    # blanks, empty rows, names
    "", " ", "  ", "f", "f ", " f", "f any ", " f any", "f  any", "any", "f any\t", "f\tany", "F any", "Fa any", "f1 any",
    "f- any", "abcdefghi any", "f Any", "f ANY", "f other", "f anyy", "f -", "f 1", "- any", "1 any", "f  ", "f ?",
    # any
    "f any a", "f any any", "f any -", "f any  ",
    # numbers
    "f number", "f number 1", "f number -", "f number 1 2 3", "f number - - -", "f number 1 ", "f number  1",
    "f number 1  2", "f number 2 1", "f number 0 -1", "f number -1 -2", f"f number {NINES} 1", f"f number - {NINES}9",
    f"f number {NINES}0 -", f"f number -1{NINES} -", f"f number 0{NINES[1:]} -", "f number 01 2", "f number 1 02",
    "f number -0 1", "f number -1 -0", "f number 00 1", "f number -01 1", "f number +1 2", "f number 1.0 2",
    "f number a b", "f number 1 b", "f number a 1", "f number -- 1", "f number 1_0 20", "f number 1- 2", "f number 1, 2",
    "f number None 1",
    # words
    "f word ", "f word  x", "f word x ", "f word x  y", "f word X", "f word x1", "f word 1", "f word -", "f word x x",
    "f word x y x", "f word abcdefghi", "f word a b c d e f g h i", "f word a b c d e f g h a", "f words x",
    # rows
    "f row ", "f row a", "f row a 0", "f row a 0 - b", "f row a 0 - b 0", "f row 0 - a", "f row a - 0", "f row a - -",
    "f row a 0 0", "f row a 1 0", "f row a 2 1", "f row a 4 3", "f row a 5 -", "f row a 5 5", "f row a 0 5", "f row a 4 5",
    "f row a -1 -", "f row a -1 1", "f row a 0 -1", "f row a 00 -", "f row a 01 1", "f row a 1 01", "f row a -0 1",
    "f row A 0 -", "f row 1 0 -", "f row abcdefghi 0 -", "f row a x -", "f row a 0 x", "f row a 0 None",
    f"f row a 0 {NINES}9", f"f row a {NINES} -", "f row a 0 -" + " a 0 -" * 4, "f row a 0 - ", "f row a  0 -",
    # records
    "f record", "f record ", "f record open ", "f record a", "f record must x a", "f record Open", "f record shut",
    "f record open x a", "f record open must", "f record open must x", "f record open must x a b",
    "f record open must x a may", "f record open must x a may y", "f record open can x a", "f record open Must x a",
    "f record open must X a", "f record open must x A", "f record open must x1 a", "f record open must x 1",
    "f record open must abcdefghi a", "f record open must x abcdefghi", "f record open must x a must x a",
    "f record open must x a may x b", "f record closed may x a may y a may x a", "f record open closed",
    "f record closed" + "".join(f" may {field} a" for field in "abcdefg"), "f record open - x a", "f record open must x -",
    "f record closed  must x a", "f record closed must x a ",
    # all, some, one
    *(row for sort in ("all", "some", "one") for row in (
        f"f {sort}", f"f {sort} ", f"f {sort} a a a a a a a", f"f {sort} a ", f"f {sort}  a", f"f {sort} A", f"f {sort} 1",
        f"f {sort} -", f"f {sort} a  b", f"f {sort} abcdefghi", f"f {sort} a b1",
    )),
    # not
    "f not", "f not ", "f not a b", "f not A", "f not -", "f not 1", "f not abcdefghi", "f not a ", "f not  a", "f not a a",
    # look
    "f look", "f look x", "f look x y", "f look x y a", "f look x y a b c", "f look X y a b", "f look x Y a b",
    "f look x y A b", "f look x y a B", "f look 1 y a b", "f look x 1 a b", "f look x y 1 b", "f look x y a 1",
    "f look abcdefghi y a b", "f look x abcdefghi a b", "f look x y abcdefghi b", "f look x y a abcdefghi",
    "f look x y a b ", "f look  x y a b", "f look x y a ", "f look - y a b",
]


class Checks(unittest.TestCase):
    def refused(self, kind, text):
        """The refusal of a text, which is of just this kind."""
        with self.assertRaises(GateError) as caught:
            forms_of(text)
        self.assertIs(type(caught.exception), kind, text)
        self.assertIsInstance(caught.exception, ValueError)
        others = {BadThing, BadRow, NoForm, Loop} - {kind}
        self.assertFalse(isinstance(caught.exception, tuple(others)))
        return caught.exception

    def check_bad_row(self, text, row):
        self.assertEqual(self.refused(BadRow, text).row, row, text)

    def check_no_form(self, text, row, name):
        refusal = self.refused(NoForm, text)
        self.assertEqual((refusal.row, refusal.name), (row, name), text)

    def check_loop(self, text, row):
        self.assertEqual(self.refused(Loop, text).row, row, text)

    def check_same(self, one, other):
        """The same, and of the same sorts all through."""
        self.assertEqual(one, other)
        self.assertIs(type(one), type(other))
        if isinstance(one, (list, tuple)):
            for mine, yours in zip(one, other):
                self.check_same(mine, yours)


class WrittenTest(Checks):
    def test_arguments(self):
        self.assertEqual(list(inspect.signature(forms_text).parameters), ["forms"])
        self.assertEqual(list(inspect.signature(forms_of).parameters), ["text"])

    def test_each_sort(self):
        for form, words in WRITTEN:
            forms = [("a", ("any",)), ("f", form), ("b", ("any",))]
            text = "a any\nf " + words + "\nb any"
            with self.subTest(text=text):
                self.assertEqual(forms_text(forms), text)
                self.check_same(forms_of(text), forms)

    def test_one_row(self):
        self.check_same(forms_of("x any"), [("x", ("any",))])
        self.assertEqual(forms_text([("x", ("any",))]), "x any")

    def test_twenty_four_rows(self):
        names = ["abcdefg" + chr(ord("a") + k) for k in range(24)]
        forms = [(name, ("row", [(names[0], 0, None)])) for name in names]
        text = "\n".join(f"{name} row abcdefga 0 -" for name in names)
        self.assertEqual(forms_text(forms), text)
        self.check_same(forms_of(text), forms)

    def test_names_of_one_and_eight_letters(self):
        text = "z not abcdefgh\nabcdefgh row z 0 - zzzzzzzz 1 1\nzzzzzzzz any"
        self.assertEqual(forms_text(forms_of(text)), text)

    def test_the_very_words_that_rows_are_written_with(self):
        forms = [(word, ("any",)) for word in KEYWORDS]
        for word, other in itertools.product(KEYWORDS, repeat=2):
            added = [
                ("f", ("word", [word, other] if word != other else [word])),
                ("g", ("row", [(word, 0, None), (other, 1, 2)])),
                ("h", ("record", [(word, True, other), ("x", False, word)], False)),
                ("i", ("all", [word, other])),
                ("j", ("not", word)),
                ("k", ("look", word, other, other, word)),
            ]
            text = forms_text(forms + added)
            self.check_same(forms_of(text), forms + added)
            self.assertEqual(forms_text(forms_of(text)), text)
        self.assertEqual(
            forms_text([("must", ("record", [("may", True, "must"), ("must", False, "open")], True)), ("open", ("any",))]),
            "must record open must may must may must open\nopen any",
        )

    def test_forms_at_random(self):
        chance = random.Random(10)
        for _ in range(300):
            forms = random_forms(chance, chance.randint(1, 24))
            text = forms_text(forms)
            self.check_same(forms_of(text), forms)
            self.assertEqual(forms_text(forms_of(text)), text)


class BadRowTest(Checks):
    def test_each_way(self):
        for row in BAD_ROWS:
            with self.subTest(row=row):
                self.check_bad_row("a any\n" + row + "\nb any", 2)
                self.check_bad_row("a any\nb any\n" + row, 3)
                self.check_bad_row(row + "\na any\nb any", 1)

    def test_empty_rows(self):
        self.check_bad_row("", 1)
        self.check_bad_row("\n", 1)
        self.check_bad_row("a any\n", 2)
        self.check_bad_row("\na any", 1)
        self.check_bad_row("a any\n\nb any", 2)
        self.check_bad_row("a any\nb any\n\n", 3)

    def test_a_name_that_an_earlier_row_has(self):
        self.check_bad_row("a any\na any", 2)
        self.check_bad_row("a any\nb any\nc any\nb word x\na any", 4)

    def test_the_twenty_fifth_row(self):
        rows = [f"n{chr(ord('a') + k)} any" for k in range(26)]
        self.assertEqual(len(forms_of("\n".join(rows[:24]))), 24)
        self.check_bad_row("\n".join(rows[:25]), 25)
        self.check_bad_row("\n".join(rows), 25)
        self.check_bad_row("\n".join(rows[:24]) + "\n", 25)
        self.check_bad_row("\n".join(rows[:23] + ["x"] + rows[23:]), 24)

    def test_the_first_of_several(self):
        self.check_bad_row("a any\nb\nc", 2)
        self.check_bad_row("a any\na any\nc", 2)
        self.check_bad_row("a any\nb\na any", 2)


class NoFormTest(Checks):
    def test_every_place_of_a_name(self):
        rows = [
            "row {} 0 -", "row a 1 1 {} 0 4", "row a 0 - a 0 - a 0 - {} 1 -", "record open must x {}", "record closed may x {}",
            "record open must a a may b {}", "record closed" + "".join(f" may {field} a" for field in "bcdef") + " must a {}",
            *(sort + before + " {}" for sort in ("all", "some", "one") for before in ("", " a", " a a a a a")),
            "not {}", "look x y {} a", "look x y a {}",
        ]
        for row in rows:
            for name in ("q", "x", "row", "qqqqqqqq"):
                self.check_no_form("a any\nf " + row.format(name), 2, name)
                self.check_no_form("f " + row.format(name) + "\na any", 1, name)
                self.assertEqual(len(forms_of("a any\nf " + row.format(name) + f"\n{name} any")), 3)

    def test_fields_and_words_are_looked_for_nowhere(self):
        text = "a any\nw word q r\nr record open must s a may t w\nl look u v a r"
        self.assertEqual(forms_text(forms_of(text)), text)

    def test_the_first_row_and_the_first_name(self):
        self.check_no_form("a all z y x\nb not w", 1, "z")
        self.check_no_form("a all a b y x\nb not w", 1, "y")
        self.check_no_form("a any\nb look z y a x\nc row w 0 -", 2, "x")
        self.check_no_form("a look z y w x", 1, "w")
        self.check_no_form("a record open must z a may y x must x v", 1, "x")
        self.check_no_form("a row a 0 - d 0 - c 0 -", 1, "d")


class LoopTest(Checks):
    def test_of_itself(self):
        for row in ("all f", "some a f", "one f f", "not f", "look x y f a", "look x y a f"):
            self.check_loop("a any\nf " + row, 2)
            self.check_loop("f " + row + "\na any", 1)

    def test_by_way_of_others(self):
        for row in ("all a {}", "some {}", "one {} a", "not {}", "look x y {} a", "look x y a {}"):
            self.check_loop("a any\nf " + row.format("g") + "\ng not f", 2)
            self.check_loop("a any\ng not f\nf " + row.format("g"), 2)
            self.check_loop("a any\nh not g\ng not f\nf " + row.format("h"), 2)

    def test_long_chains(self):
        names = [chr(ord("a") + k) for k in range(24)]
        rows = [f"{name} not {after}" for name, after in zip(names, names[1:])]
        self.assertEqual(len(forms_of("\n".join(rows + ["x any"]))), 24)
        for k in range(24):
            self.check_loop("\n".join(rows + [f"x some {names[k]}"]), k + 1)
            self.check_loop("\n".join([f"x some {names[k]}"] + rows[::-1]), 1)

    def test_one_that_only_leads_to_such_a_form(self):
        self.check_loop("a not b\nb not b", 2)
        self.check_loop("a not b\nb not c\nc all d\nd some c", 3)
        self.check_loop("a all b c\nb any\nc not d\nd not c\ne not a", 3)

    def test_rows_and_records_are_no_leanings(self):
        for text in (
            "a row a 0 -", "a record open must a a", "a row b 0 -\nb not a", "a not b\nb record closed may x a",
            "a all b c\nb row a 1 1\nc record open must x d\nd some c b", "a row b 0 -\nb row a 0 -",
            "a look a a b b\nb row a 0 1",
        ):
            self.assertEqual(forms_text(forms_of(text)), text)

    def test_the_same_form_by_two_ways_is_no_loop(self):
        self.assertEqual(len(forms_of("a all b c\nb not d\nc not d\nd any")), 4)
        self.assertEqual(len(forms_of("a all b b\nb look x y c c\nc any")), 3)


class OrderTest(Checks):
    def test_a_bad_row_ahead_of_all_else(self):
        self.check_bad_row("a not z\nb", 2)
        self.check_bad_row("a not a\nb not z\nc", 3)
        self.check_bad_row("a not z\na any", 2)
        self.check_bad_row("\n".join(["a not z"] + [f"b{chr(ord('a') + k)} any" for k in range(24)]), 25)

    def test_a_missing_form_ahead_of_a_loop(self):
        self.check_no_form("a not a\nb not z", 2, "z")
        self.check_no_form("a not b\nb all a z", 2, "z")
        self.check_no_form("a all a z", 1, "z")
        self.check_no_form("a not a\nb row z 0 -", 2, "z")


if __name__ == "__main__":
    unittest.main()
