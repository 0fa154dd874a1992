"""Point 5: what forms lean on, their depths, and which forms tell what others let by."""

import unittest

from recordgate.leanings import depths_of, leans_on, named_in, needed

FORMS = [
    ("top", ("all", ["mid", "leaf", "mid"])),
    ("mid", ("look", "x", "y", "no", "rows")),
    ("no", ("not", "leaf")),
    ("leaf", ("number", 0, 1)),
    ("rows", ("row", [("top", 0, None), ("rec", 1, 1)])),
    ("rec", ("record", [("leaf", True, "word"), ("a", False, "rec")], True)),
    ("word", ("word", ["top", "alone"])),
    ("alone", ("some", ["leaf"])),
]


class LeaningsTest(unittest.TestCase):
    def test_names(self):
        self.assertEqual([leans_on(form) for _, form in FORMS],
                         [["mid", "leaf", "mid"], ["no", "rows"], ["leaf"], [], [], [], [], ["leaf"]])
        self.assertEqual([named_in(form) for _, form in FORMS],
                         [["mid", "leaf", "mid"], ["no", "rows"], ["leaf"], [], ["top", "rec"], ["word", "rec"], [], ["leaf"]])

    def test_depths(self):
        expected = {"leaf": 0, "rows": 0, "rec": 0, "word": 0, "no": 1, "alone": 1, "mid": 2, "top": 3}
        for forms in (FORMS, FORMS[::-1]):
            self.assertEqual(depths_of(forms), expected)
            self.assertEqual(list(depths_of(forms).values()), sorted(expected.values()))

    def test_needed(self):
        for names, expected in [
            (["leaf"], "leaf"), (["word"], "word"), (["rec"], "rec word"), (["no"], "no leaf"), (["alone", "word"], "leaf word alone"),
            (["rows"], "top mid no leaf rows rec word"), (["alone", "rows"], "top mid no leaf rows rec word alone"),
        ]:
            self.assertEqual([name for name, _ in needed(FORMS, names)], expected.split())


if __name__ == "__main__":
    unittest.main()
