import copy
import unittest

from askviews.terms import is_atom, is_term, is_unknown, is_value
from tests.helping import Truths, deep_things, no_texts

SMALL = "abcdefghijklmnopqrstuvwxyz"
FIGURES = "0123456789"
OTHER_SIGNS = [sign for sign in map(chr, range(32, 127)) if sign not in SMALL + FIGURES + "%"]
VALUES = ["a", "z", "0", "9", "ab", "12", "a1", "1a", "abcdefgh", "12345678", "a2c4e6g8", "00000000"]
NEITHER = [
    "", "abcdefghi", "123456789", "abcdefghijklmnop", "A", "aB", "Ab", "ABCDEFGH", "abcdefgH",
    " ", "a ", " a", "a b", "-1", "a_b", "a.b", ",", ":", "?", "??", "?a?", "a?", "??a", "a?b",
    "? a", "?a ", " ?a", "?A", "?aB", "?abcdefghi", "?123456789", "?a b", "?-", "?:",
]


class Promise5(Truths):
    def test_values(self):
        for text in VALUES:
            self.tells(is_value(text), True, text)
            self.tells(is_unknown(text), False, text)
            self.tells(is_term(text), True, text)

    def test_unknowns(self):
        for text in ["?" + value for value in VALUES]:
            self.tells(is_value(text), False, text)
            self.tells(is_unknown(text), True, text)
            self.tells(is_term(text), True, text)

    def test_texts_that_are_neither(self):
        for text in NEITHER:
            self.tells(is_value(text), False, text)
            self.tells(is_unknown(text), False, text)
            self.tells(is_term(text), False, text)

    def test_each_right_sign_at_each_place(self):
        for sign in SMALL + FIGURES:
            for text in (sign, sign + "a", "a" + sign, "abcdefg" + sign):
                self.tells(is_value(text), True, text)
                self.tells(is_unknown("?" + text), True, text)
                self.tells(is_term(text), True, text)
                self.tells(is_term("?" + text), True, text)

    def test_each_other_sign_at_each_place(self):
        for sign in OTHER_SIGNS:
            for text in (sign, sign + "a", "a" + sign, "a" + sign + "b", "abcdefg" + sign):
                self.tells(is_value(text), False, text)
                self.tells(is_unknown("?" + text), False, text)
                self.tells(is_term("?" + text), False, text)
                self.tells(is_term(text), text == "?a", text)

    def test_every_length(self):
        for length in range(12):
            text = "a" * length
            self.tells(is_value(text), 1 <= length <= 8, text)
            self.tells(is_unknown("?" + text), 1 <= length <= 8, text)
            self.tells(is_term(text), 1 <= length <= 8, text)
            self.tells(is_term("?" + text), 1 <= length <= 8, text)

    def test_things_that_are_no_texts(self):
        for thing in no_texts() + deep_things():
            self.tells(is_value(thing), False, thing)
            self.tells(is_unknown(thing), False, thing)
            self.tells(is_term(thing), False, thing)


class Promise6Atoms(Truths):
    def test_atoms(self):
        for thing in (
            ("r", ("a",)),
            ("r", ("?x",)),
            ("r", ("?x", "?x")),
            ("r", ("a", "?x", "b")),
            ("r", ("?x", "?y", "?z", "?u")),
            ("r", ("a", "a", "a", "a")),
            ("12345678", ("?12345678",)),
            ("0", ("0",)),
        ):
            self.tells(is_atom(thing), True, thing)

    def test_every_count_of_terms(self):
        for count in range(7):
            for term in ("a", "?x"):
                thing = ("r", (term,) * count)
                self.tells(is_atom(thing), 1 <= count <= 4, thing)

    def test_wrong_names(self):
        for name in ["?x", "?12"] + NEITHER + no_texts():
            self.tells(is_atom((name, ("a",))), False, name)

    def test_wrong_terms_at_each_place(self):
        for wrong in NEITHER + no_texts():
            for place in range(4):
                terms = ["a", "?x", "b", "?y"]
                terms[place] = wrong
                self.tells(is_atom(("r", tuple(terms))), False, wrong)
            self.tells(is_atom(("r", (wrong,))), False, wrong)

    def test_wrong_kinds_in_the_place_of_the_terms(self):
        for wrong in (["a"], ["?x", "?y"], {"a": "a"}, {}, "a", "?x", "ab", "", None, True, False, 0, 1, 2):
            self.tells(is_atom(("r", wrong)), False, wrong)

    def test_wrong_kinds_in_the_place_of_the_atom(self):
        for thing in (
            ["r", ("a",)],
            {"r": ("a",)},
            {"r": 0, ("a",): 1},
            {0: "r", 1: ("a",)},
            "ra",
            (),
            ("r",),
            (("a",),),
            ("r", "a"),
            ("r", ("a",), ("a",)),
            ("r", ("a",), None),
            ("r", "a", "b"),
            (("a",), "r"),
            (("r", ("a",)),),
        ):
            self.tells(is_atom(thing), False, thing)
        for thing in NEITHER + VALUES + no_texts() + deep_things():
            self.tells(is_atom(thing), False, thing)


class Promise2(unittest.TestCase):
    def test_what_is_handed_in_stays_as_it_was(self):
        for ask in (is_value, is_unknown, is_term, is_atom):
            for thing in no_texts() + [("r", ("a", "?x")), ("r", ["a"]), ["r", ("a",)], ({"r": []}, ([],))]:
                before = copy.deepcopy(thing)
                ask(thing)
                self.assertEqual(thing, before)

    def test_nothing_hangs_on_what_was_asked_before(self):
        asked = ["a", "?x", "", "?", ("r", ("a",)), ("r", ()), None]
        for ask in (is_value, is_unknown, is_term, is_atom):
            first = [ask(thing) for thing in asked]
            self.assertEqual([ask(thing) for thing in reversed(asked)], first[::-1])


if __name__ == "__main__":
    unittest.main()
