"""Points 15 and 16: what changes from one make of forms to the next."""

import copy
import inspect
import random
import unittest

from recordgate.formtext import forms_of, forms_text
from recordgate.gate import bar, lets
from recordgate.kinds import kinds
from recordgate.moved import lost, moved
from tests.helper import all_things, holders_in, plain_bar, plain_compared, plain_lets, plain_renamed, random_forms

LETTERS = "abcdefghijklmnopqrstuvwxyz"
THINGS = all_things([0, 1, -1, "a", "b"], ["a", "b", "g"], 3)
ANY = ("any", ("any",))


def plain_moved(old, new):
    """Point 15, by the kinds of the forms of both makes under names that have nothing to do with theirs."""
    names = [[(name, LETTERS[k]) for k, (name, _) in enumerate(old)],
             [(name, LETTERS[::-1][k]) for k, (name, _) in enumerate(new)]]
    both = forms_of("\n".join(plain_renamed(old, dict(names[0])) + plain_renamed(new, dict(names[1]))))
    bits = {name: k for k, (name, _) in enumerate(both)}
    found = kinds(both)
    told = []
    for name in sorted({name for name, _ in old + new}, key=lambda name: (len(name), name)):
        if name in dict(old) and name in dict(new):
            one, other = [bits[dict(pairs)[name]] for pairs in names]
            gone = next((thing for mask, thing in found if mask >> one & ~(mask >> other) & 1), None)
            come = next((thing for mask, thing in found if mask >> other & ~(mask >> one) & 1), None)
            word = {(True, True): "alike", (True, False): "wider", (False, True): "narrower", (False, False): "other"}
            told.append((name, word[gone is None, come is None], gone, come))
        else:
            told.append((name, "left" if name in dict(old) else "added", None, None))
    return told


def changed(chance, forms):
    """Forms of the next make: some rows are others, left out or added, and all stand in any order."""
    others = dict(random_forms(chance, len(forms)))
    new = list(forms)
    for step in range(chance.randint(0, 6)):
        k = chance.randrange(len(new))
        name = new[k][0]
        tried = chance.choice([
            new[:k] + [(name, others.get(name, ("any",)))] + new[k + 1:],
            new[:k] + new[k + 1:],
            new + [("new" + LETTERS[step], ("not", name))],
        ])
        if len(tried) <= 12 and is_read(tried):
            new = tried
    return chance.sample(new, len(new))


def is_read(forms):
    try:
        return forms_of(forms_text(forms)) == forms
    except ValueError:
        return False


class MovedTest(unittest.TestCase):
    def check(self, old, new, *expected):
        for one, other in ((old, new), (old[::-1], new), (old, new[::-1])):
            self.assertEqual(self.told(one, other), list(expected))

    def told(self, old, new):
        """What is told of two makes, after a look at what holds of all of it."""
        told = moved(old, new)
        self.assertIs(type(told), list)
        for step in told:
            self.assertIs(type(step), tuple)
            name, word, gone, come = step
            if gone is not None:
                self.assertTrue(lets(old, name, gone) and not lets(new, name, gone))
            if come is not None:
                self.assertTrue(lets(new, name, come) and not lets(old, name, come))
        return told

    def test_arguments(self):
        self.assertEqual(list(inspect.signature(moved).parameters), ["old", "new"])
        self.assertEqual(list(inspect.signature(lost).parameters), ["old", "new", "name", "things"])

    def test_each_word(self):
        for one, other, expected in [
            (("number", 1, 5), ("number", 1, 5), ("alike", None, None)),
            (("number", 1, 5), ("number", 0, 5), ("wider", None, 0)),
            (("number", 1, 5), ("number", -2, 8), ("wider", None, 0)),
            (("number", 1, 5), ("number", 2, 5), ("narrower", 1, None)),
            (("number", None, None), ("number", 0, None), ("narrower", -1, None)),
            (("number", 1, 5), ("number", 3, 8), ("other", 1, 6)),
            (("number", 1, 5), ("word", []), ("other", 1, "a")),
            (("word", []), ("word", ["b"]), ("narrower", "a", None)),
            (("word", ["a", "b"]), ("word", ["b", "a"]), ("alike", None, None)),
            (("word", ["a", "b"]), ("word", ["b", "c", "a"]), ("wider", None, "c")),
            (("row", []), ("row", [("x", 0, None)]), ("wider", None, [[]])),
            (("row", [("x", 1, 1)]), ("record", [("x", True, "x")], True), ("alike", None, None)),
            (("any",), ("row", []), ("narrower", 0, None)),
            (("row", []), ("any",), ("wider", None, 0)),
            (("record", [], True), ("record", [], False), ("narrower", {"a": 0}, None)),
        ]:
            self.check([("x", one)], [("x", other)], ("x",) + expected)

    def test_names_in_one_make_alone(self):
        self.check([("x", ("any",))], [("y", ("any",))], ("x", "left", None, None), ("y", "added", None, None))
        self.check([("y", ("any",))], [("x", ("any",))], ("x", "added", None, None), ("y", "left", None, None))
        old = [("x", ("any",)), ("b", ("not", "x")), ("aa", ("row", [("b", 0, 1)]))]
        new = [("x", ("any",)), ("c", ("not", "x")), ("ab", ("row", [("c", 0, 1)]))]
        self.check(old, new, ("b", "left", None, None), ("c", "added", None, None), ("x", "alike", None, None),
                   ("aa", "left", None, None), ("ab", "added", None, None))

    def test_forms_that_let_nothing_by(self):
        old = [ANY, ("x", ("not", "any")), ("y", ("row", [("y", 1, None)])), ("z", ("any",))]
        new = [ANY, ("x", ("row", [("x", 1, None)])), ("y", ("number", 4, 4)), ("z", ("not", "any"))]
        self.check(old, new, ("x", "alike", None, None), ("y", "wider", None, 4), ("z", "narrower", 0, None),
                   ("any", "alike", None, None))

    def test_the_least_thing_may_be_false_for_python(self):
        self.check([("x", ("number", 0, 0))], [("x", ("row", []))], ("x", "other", 0, []))
        self.check([("x", ("record", [], False))], [("x", ("number", 0, 0))], ("x", "other", {}, 0))

    def test_a_row_that_stays_while_what_it_names_changes(self):
        stay = [("r", ("row", [("n", 0, None)])), ("f", ("record", [("a", True, "n")], False)), ("no", ("not", "n")),
                ("all", ("all", ["n"])), ("see", ("look", "a", "b", "no", "n")), ("s", ("some", ["n", "r"]))]
        self.check(
            stay + [("n", ("number", 1, 5))], stay + [("n", ("number", 3, 8))],
            ("f", "other", {"a": 1}, {"a": 6}), ("n", "other", 1, 6), ("r", "other", [1], [6]), ("s", "other", 1, 6),
            ("no", "other", 6, 1), ("all", "other", 1, 6), ("see", "other", 1, 6))
        self.check(
            stay + [("n", ("number", 1, 5))], stay + [("n", ("number", 1, 8))],
            ("f", "wider", None, {"a": 6}), ("n", "wider", None, 6), ("r", "wider", None, [6]), ("s", "wider", None, 6),
            ("no", "narrower", 6, None), ("all", "wider", None, 6), ("see", "wider", None, 6))

    def test_a_row_that_changes_while_it_lets_by_the_same(self):
        old = [("n", ("number", 1, 5)), ("x", ("not", "no")), ("no", ("not", "n")), ("t", ("row", [("t", 0, None)]))]
        new = [("n", ("number", 1, 5)), ("x", ("all", ["n"])), ("t", ("row", [("u", 0, None)])), ("u", ("row", [("t", 0, 1), ("t", 0, None)]))]
        self.check(old, new, ("n", "alike", None, None), ("t", "alike", None, None), ("u", "added", None, None),
                   ("x", "alike", None, None), ("no", "left", None, None))

    def test_names_that_change_places(self):
        self.check([("a", ("number", 1, 1)), ("b", ("word", ["b"])), ("c", ("row", [("a", 1, 1)]))],
                   [("b", ("number", 1, 1)), ("a", ("word", ["b"])), ("c", ("row", [("b", 1, 1)]))],
                   ("a", "other", 1, "b"), ("b", "other", "b", 1), ("c", "alike", None, None))

    def test_words_and_fields_are_no_names(self):
        forms = [("a", ("word", ["a", "b"])), ("b", ("record", [("a", True, "a")], False)), ("c", ("look", "a", "b", "b", "a"))]
        self.check(forms, forms, ("a", "alike", None, None), ("b", "alike", None, None), ("c", "alike", None, None))
        self.check(forms, [forms[0], ("b", ("record", [("b", True, "a")], False)), forms[2]],
                   ("a", "alike", None, None), ("b", "other", {"a": "a"}, {"b": "a"}), ("c", "narrower", {"a": "b"}, None))

    def test_names_with_letters_ahead_or_behind(self):
        marks = ["old", "new", "o", "n", "a", "b", "x", "left", "added", "oldx", "newx", "xold", "xnew", "ox", "nx", "xo", "xn",
                 "ax", "bx", "xa", "xb", "xx", "oldold", "newnew", "oldnew", "newold"]
        for mark in marks:
            old = [("x", ("number", 1, 1)), (mark + "x", ("number", 2, 2)), ("x" + mark + "z", ("not", "x"))]
            new = [(mark + "x", ("number", 1, 1)), (mark + mark[:3] + "y", ("number", 2, 2)), ("x", ("not", mark + "x"))]
            self.assertEqual(self.told(old, new), plain_moved(old, new))

    def test_names_of_eight_letters(self):
        old = [("abcdefgh", ("number", 1, 2)), ("abcdefgi", ("row", [("abcdefgh", 1, 1)])), ("zzzzzzzz", ("any",)),
               ("abcdefg", ("word", []))]
        new = [("abcdefgi", ("row", [("abcdefgh", 1, 1)])), ("abcdefgh", ("number", 1, 1)), ("aaaaaaaa", ("any",)),
               ("abcdefg", ("all", ["abcdefgh"]))]
        self.check(old, new, ("abcdefg", "other", "a", 1), ("aaaaaaaa", "added", None, None), ("abcdefgh", "narrower", 2, None),
                   ("abcdefgi", "narrower", [2], None), ("zzzzzzzz", "left", None, None))

    def test_the_order_of_names(self):
        chance = random.Random(51)
        names = ["z", "b", "aa", "a", "ba", "ab", "zz", "aaa", "c", "zzzzzzzz", "aaaaaaaa", "abc"]
        for _ in range(5):
            old = [(name, ("any",)) for name in chance.sample(names, 8)]
            new = [(name, ("any",)) for name in chance.sample(names, 8)]
            expected = sorted({name for name, _ in old + new}, key=lambda name: (len(name), name))
            self.assertEqual([step[0] for step in moved(old, new)], expected)

    def test_makes_of_twelve_forms(self):
        old = [("a", ("number", 1, 2))] + [(LETTERS[k], ("row", [(LETTERS[k - 1], 1, 1)])) for k in range(1, 12)]
        new = [("a", ("number", 2, 3))] + old[:0:-1]
        gone, come = 1, 3
        for name, word, told_gone, told_come in self.told(old, new):
            self.assertEqual((word, told_gone, told_come), ("other", gone, come), name)
            gone, come = [gone], [come]
        self.assertEqual(self.told(old, old), [(name, "alike", None, None) for name in LETTERS[:12]])
        more = [(name + "x", form) for name, form in [(name, ("any",)) for name, _ in old]]
        self.assertEqual([step[1] for step in self.told(old, more)], ["left"] * 12 + ["added"] * 12)

    def test_makes_of_unlike_length(self):
        old = [("x", ("any",))]
        new = [(name, ("not", "x")) for name in LETTERS[:11]] + [("x", ("word", []))]
        self.assertEqual(self.told(old, new), [(name, "added", None, None) for name in LETTERS[:11]] + [("x", "narrower", 0, None)])
        self.assertEqual(self.told(new, old), [(name, "left", None, None) for name in LETTERS[:11]] + [("x", "wider", None, 0)])

    def test_somewhat_beyond_the_bounds(self):
        old = [(letter, ("number", k, k)) for k, letter in enumerate(LETTERS[:14])]
        new = [(letter, ("number", k, k + 1)) for k, letter in enumerate(LETTERS[:14])]
        self.assertEqual(self.told(old, new), [(letter, "wider", None, k + 1) for k, letter in enumerate(LETTERS[:14])])

    def test_forms_at_random(self):
        chance = random.Random(52)
        words = []
        for _ in range(120):
            old = random_forms(chance, chance.randint(1, 12))
            new = changed(chance, old) if chance.random() < 0.7 else random_forms(chance, chance.randint(1, 12))
            told = self.told(old, new)
            self.assertEqual(told, plain_moved(old, new), (old, new))
            back = [(name, {"wider": "narrower", "narrower": "wider", "left": "added", "added": "left"}.get(word, word), come, gone)
                    for name, word, gone, come in told]
            self.assertEqual(moved(new, old), back)
            words += [step[1] for step in told]
        for word in ("alike", "wider", "narrower", "other", "left", "added"):
            self.assertGreater(words.count(word), 40, word)

    def test_no_lesser_thing(self):
        chance = random.Random(53)
        for _ in range(30):
            old = random_forms(chance, chance.randint(1, 8))
            new = changed(chance, old)
            for name, word, gone, come in moved(old, new):
                if word in ("left", "added"):
                    continue
                for thing in chance.sample(THINGS, 40):
                    was, now = plain_lets(old, name, thing), plain_lets(new, name, thing)
                    if was != now:
                        told = gone if was else come
                        self.assertTrue(told is not None and plain_compared(told, thing) <= 0, (old, new, name, thing))

    def test_what_is_told_is_the_askers_own(self):
        rows = [("pair", ("row", [("e", 2, 2)])), ("e", ("row", [])), ("rec", ("record", [("a", True, "pair"), ("b", True, "pair")], True))]
        old = rows + [("x", ("all", ["pair"])), ("y", ("some", ["rec", "pair"])), ("z", ("word", []))]
        new = copy.deepcopy(rows) + [("x", ("all", ["rec"])), ("y", ("word", [])), ("z", ("some", ["rec"]))]
        told = moved(old, new)
        self.assertEqual(told[1:4], [("x", "other", [[], []], {"a": [[], []], "b": [[], []]}), ("y", "other", [[], []], "a"),
                                     ("z", "other", "a", {"a": [[], []], "b": [[], []]})])
        again = moved(old, new)
        holders = holders_in((told, again, old, new))
        self.assertEqual(len({id(holder) for holder in holders}), len(holders))
        for holder in holders_in(again):
            holder.clear()
        self.assertEqual(moved(old, new), told)


class LostTest(unittest.TestCase):
    OLD = [ANY, ("n", ("number", 0, 9)), ("rec", ("record", [("a", True, "n"), ("b", False, "rows")], True)),
           ("rows", ("row", [("n", 0, None)])), ("x", ("some", ["rec", "rows", "n"]))]
    NEW = [("x", ("all", ["rec", "any"])), ("rec", ("record", [("a", True, "n"), ("b", False, "rows")], False)),
           ("rows", ("row", [("n", 0, 2)])), ("n", ("number", 3, 20)), ANY]

    def test_by_hand(self):
        for name, things, expected in [
            ("n", [], []),
            ("n", [0, 3, 2, 9, 10, "a", 2], [(0, [], 4), (2, [], 4), (6, [], 4)]),
            ("rows", [[], [3], [3, 1], [1, 3], [3, 3, 3], [10, 1], [10]], [(2, [1], 4), (3, [0], 4), (4, [], 3)]),
            ("rec", [{"a": 3, "c": 1}, {"a": 2}, {"a": 3, "b": [3, 2]}, {"b": 1}, {"a": 4, "b": []}, {"a": 3, "b": [4, 4, 4]}],
             [(0, ["c"], 2), (1, ["a"], 4), (2, ["b", 1], 4), (5, ["b"], 3)]),
            ("x", [4, "a", {"a": 1}, {"a": 4}, [], {"a": 4, "x": "a"}, {}], [(0, [], 2), (2, ["a"], 4), (4, [], 2), (5, ["x"], 2)]),
            ("any", [4, "a", [], {}, {"a": [1]}], []),
        ]:
            told = lost(self.OLD, self.NEW, name, things)
            self.assertEqual(told, expected, name)
            self.assertIs(type(told), list)
            for step in told:
                self.assertEqual([type(part) for part in step], [int, list, int])
                self.assertIs(type(step), tuple)

    def test_the_other_way_about(self):
        self.assertEqual(lost(self.NEW, self.OLD, "n", [0, 3, 10, "a", 20, 21, 10]), [(2, [], 2), (4, [], 2), (6, [], 2)])
        self.assertEqual(lost(self.NEW, self.OLD, "rec", [{"a": 9}, {"a": 10, "b": []}, {"a": 5, "b": [4, 11]}, {"a": 10, "c": 1}]),
                         [(1, ["a"], 2), (2, ["b", 1], 2)])
        self.assertEqual(lost(self.NEW, self.OLD, "x", [{"a": 9}, {"a": 10}]), [(1, [], 5)])

    def test_the_same_make(self):
        for name, _ in self.OLD:
            self.assertEqual(lost(self.OLD, self.OLD, name, THINGS[:60]), [])

    def test_a_thing_that_stands_in_the_list_twice(self):
        thing = {"a": 3, "b": [3, 2]}
        told = lost(self.OLD, self.NEW, "rec", [thing, {"a": 3}, thing, thing])
        self.assertEqual(told, [(0, ["b", 1], 4), (2, ["b", 1], 4), (3, ["b", 1], 4)])
        told[0][1].append("c")
        told[1][1].clear()
        self.assertEqual(told[2], (3, ["b", 1], 4))
        self.assertEqual(lost(self.OLD, self.NEW, "rec", [thing]), [(0, ["b", 1], 4)])
        self.assertEqual(thing, {"a": 3, "b": [3, 2]})

    def test_sixty_things_at_random(self):
        chance = random.Random(54)
        count = deep = 0
        for _ in range(100):
            old = random_forms(chance, chance.randint(1, 12))
            new = changed(chance, old)
            things = chance.choices(THINGS, k=chance.choice([0, 1, 7, 59, 60]))
            for name in [name for name, _ in old if name in dict(new)][:4]:
                for one, other in ((old, new), (new, old)):
                    told = lost(one, other, name, things)
                    expected = [(k,) + tuple(plain_bar(other, name, thing)) for k, thing in enumerate(things)
                                if plain_lets(one, name, thing) and not plain_lets(other, name, thing)]
                    self.assertEqual(told, expected)
                    count += len(told)
                    deep += len([place for _, place, _ in told if place])
                    for k, place, row in told:
                        self.assertEqual(bar(other, name, things[k]), (place, row))
        self.assertGreater(count, 300)
        self.assertGreater(deep, 30)


if __name__ == "__main__":
    unittest.main()
