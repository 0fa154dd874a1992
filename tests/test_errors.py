"""The refusals: how they stand to one another, and what they bear."""

import unittest

from recordgate.errors import BadRow, BadThing, GateError, Loop, NoForm

MADE = [(BadThing, ()), (BadRow, (3,)), (NoForm, (4, "door")), (Loop, (5,))]


class ErrorsTest(unittest.TestCase):
    def test_each_stands_straight_under_gate_error(self):
        self.assertEqual(GateError.__bases__, (ValueError,))
        for refusal, _ in MADE:
            self.assertEqual(refusal.__bases__, (GateError,))

    def test_each_is_taken_by_its_own_name_and_by_those_above_it(self):
        for refusal, values in MADE:
            for name in (refusal, GateError, ValueError):
                with self.subTest(refusal=refusal, name=name), self.assertRaises(name):
                    raise refusal(*values)

    def test_none_is_taken_by_the_name_of_another(self):
        for refusal, values in MADE:
            for other, _ in MADE:
                with self.subTest(refusal=refusal, other=other):
                    self.assertEqual(isinstance(refusal(*values), other), refusal == other)
        for other, _ in MADE:
            self.assertNotIsInstance(GateError(), other)

    def test_fields(self):
        self.assertEqual(BadRow(3).row, 3)
        self.assertEqual(Loop(24).row, 24)
        error = NoForm(0, "door")
        self.assertEqual((error.row, error.name), (0, "door"))

    def test_fields_of_one_error_are_its_own(self):
        first = NoForm(1, "a")
        second = NoForm(2, "b")
        self.assertEqual((first.row, first.name), (1, "a"))
        self.assertEqual((second.row, second.name), (2, "b"))

    def test_made_by_the_names_of_the_fields(self):
        self.assertEqual(BadRow(row=7).row, 7)
        self.assertEqual(NoForm(row=7, name="x").name, "x")
        self.assertEqual(Loop(row=7).row, 7)

    def test_bad_thing_is_made_with_nothing_or_with_words(self):
        self.assertIsInstance(BadThing(), GateError)
        self.assertIsInstance(BadThing("too deep"), GateError)


if __name__ == "__main__":
    unittest.main()
