import copy
import unittest

from askviews.questions import is_question, unknowns_of
from tests.helping import Truths, deep_things, no_texts

R = ("r", ("?x", "?y"))
S = ("s", ("?y", "a"))
WRONG_TERMS = ["", "abcdefghi", "A", "?", "??x", "x?", "?A", " ", "a b", ":", ","] + no_texts()
WRONG_ATOMS = [
    ("r", ()), ("r", ("a",) * 5), ("r", ["a"]), ["r", ("a",)], {"r": ("a",)}, ("?r", ("a",)), ("R", ("a",)),
    ("", ("a",)), ("r",), ("r", ("a",), ("b",)), ("r", "a"), ("r", ("A",)), ("r", ("?",)), ("r", (1,)),
    ("r", (None,)), ("r", (True,)), ("r", (("a",),)), ("r", (["a"],)), (1, ("a",)), (("r",), ("a",)), "r", "ra",
] + no_texts()


class Promise6Questions(Truths):
    def asked(self, expected, thing):
        self.tells(is_question(thing), expected, thing)

    def test_questions(self):
        for thing in (
            (("?x", "a"), (R, S)),
            ((), (R,)),
            ((), (("r", ("a",)),)),
            (("?x",), (R,)),
            (("?y",), (R, S)),
            (("?x", "?x", "?x", "?x"), (R,)),
            (("?y", "?x"), (R,)),
            (("?x", "?z"), (R, ("s", ("?z",)))),
        ):
            self.asked(True, thing)

    def test_every_count_of_head_terms(self):
        for count in range(7):
            for term in ("a", "?x"):
                self.asked(count <= 4, ((term,) * count, (R,)))

    def test_every_count_of_atoms(self):
        for count in range(12):
            atoms = tuple([("r", ("?x", "?y" + str(number))) for number in range(count)])
            self.asked(1 <= count <= 8, (("a",), atoms))
            self.asked(1 <= count <= 8, ((), atoms))

    def test_alike_atoms(self):
        for count in range(12):
            self.asked(1 <= count <= 8, (("?x",), (R,) * count) if count else ((), ()))
        self.asked(True, (("?x",), (R, S, R, S)))

    def test_a_head_with_an_unknown_that_stands_in_no_atom(self):
        for head in (("?z",), ("?x", "?z"), ("?z", "?x"), ("?x", "?y", "a", "?z"), ("?r",), ("?a",), ("?xx",)):
            self.asked(False, (head, (R, S)))
        self.asked(False, (("?x",), (("x", ("x",)),)))

    def test_a_head_whose_unknown_stands_in_the_last_atom_alone(self):
        for count in range(8):
            atoms = (R,) * count + (("s", ("a", "b", "c", "?z")),)
            self.asked(True, (("?z",), atoms))

    def test_a_head_of_values_that_stand_in_no_atom(self):
        for head in (("b",), ("b", "c", "d", "12345678"), ("x",), ("?x", "b")):
            self.asked(True, (head, (R,)))

    def test_wrong_terms_at_each_place_of_the_head(self):
        for wrong in WRONG_TERMS:
            for place in range(4):
                head = ["?x", "a", "?y", "b"]
                head[place] = wrong
                self.asked(False, (tuple(head), (R,)))
            self.asked(False, ((wrong,), (R,)))

    def test_wrong_atoms_at_each_place(self):
        for wrong in WRONG_ATOMS:
            for place in range(8):
                atoms = [R] * 8
                atoms[place] = wrong
                self.asked(False, ((), tuple(atoms)))
                self.asked(False, (("?x",), tuple(atoms)))
            self.asked(False, (("a",), (wrong,)))

    def test_wrong_kinds_in_the_place_of_the_head(self):
        for wrong in ([], ["?x"], {}, {"?x": True}, "", "?x", "a", None, True, False, 0, 1):
            self.asked(False, (wrong, (R,)))

    def test_wrong_kinds_in_the_place_of_the_atoms(self):
        for wrong in ([R], [], {R: True}, {}, R, "", "r", None, True, False, 0, 1):
            self.asked(False, ((), wrong))
            self.asked(False, (("?x",), wrong))

    def test_wrong_kinds_in_the_place_of_the_question(self):
        for thing in (
            [("?x",), (R,)],
            {("?x",): (R,)},
            {("?x",): 0, (R,): 1},
            {0: ("?x",), 1: (R,)},
            (("?x",),),
            (("?x",), (R,), ()),
            (("?x",), (R,), None),
            ((R,), ("?x",)),
            ((R,),),
            R,
            "?x : r ?x ?y",
            ("?x", "r"),
            ((("?x",), (R,)),),
        ):
            self.asked(False, thing)
        for thing in no_texts() + deep_things():
            self.asked(False, thing)
            self.asked(False, (thing, thing))


class Promise6Unknowns(unittest.TestCase):
    def test_the_order_of_the_atoms_each_once(self):
        for question, expected in (
            ((("?x", "a"), (R, S)), ["?x", "?y"]),
            ((("?y", "?x"), (R,)), ["?x", "?y"]),
            (((), (S, R)), ["?y", "?x"]),
            (((), (R, R)), ["?x", "?y"]),
            (((), (("r", ("?x", "?x", "?x", "?x")),)), ["?x"]),
            (((), (("r", ("?b", "?a", "?c", "?a")), ("r", ("?10", "?9", "?b", "?2")))),
             ["?b", "?a", "?c", "?10", "?9", "?2"]),
            ((("?c",), (("r", ("x", "?c")), ("x", ("?x", "c")))), ["?c", "?x"]),
        ):
            with self.subTest(question=question):
                self.assertEqual(unknowns_of(question), expected)
                self.assertIsInstance(unknowns_of(question), list)

    def test_a_question_without_unknowns(self):
        for question in (((), (("r", ("a",)),)), (("a", "b"), (("r", ("a", "b", "c", "d")), ("s", ("x",))))):
            self.assertEqual(unknowns_of(question), [])

    def test_a_question_of_more_than_eight_atoms(self):
        for count in (9, 24, 1000):
            atoms = tuple([("r", ("?" + str(number), "a", "?" + str(number + 1))) for number in range(count)])
            expected = ["?" + str(number) for number in range(count + 1)]
            self.assertEqual(unknowns_of((("?1",), atoms)), expected)
            self.assertEqual(unknowns_of((("?1",), tuple(reversed(atoms))))[:2], ["?" + str(count - 1), "?" + str(count)])


class Promise2(unittest.TestCase):
    def test_what_is_handed_in_stays_as_it_was(self):
        things = no_texts() + [(("?x",), (R, S)), (["?x"], [R]), [("?x",), (R,)], ({"?x": []}, {"r": [R]})]
        for thing in things:
            before = copy.deepcopy(thing)
            is_question(thing)
            self.assertEqual(thing, before)
        question = (("?x",), (R, S))
        unknowns_of(question)
        self.assertEqual(question, (("?x",), (("r", ("?x", "?y")), ("s", ("?y", "a")))))

    def test_what_is_told_is_the_askers_own(self):
        question = (("?x",), (R, S))
        told = unknowns_of(question)
        kept = unknowns_of(question)
        told.append("?z")
        told[0] = "?u"
        self.assertEqual(kept, ["?x", "?y"])
        self.assertEqual(unknowns_of(question), ["?x", "?y"])
        told.clear()
        self.assertEqual(unknowns_of(question), ["?x", "?y"])
        self.assertEqual(unknowns_of(((), (S,))), ["?y"])
        self.assertIs(is_question(question), True)

    def test_a_list_that_was_told_is_not_changed_by_what_is_asked_later(self):
        told = unknowns_of((("?x",), (R,)))
        unknowns_of(((), (("t", ("?u", "?v")),)))
        is_question((("?x",), (R,)))
        self.assertEqual(told, ["?x", "?y"])

    def test_without_unknowns_too_each_list_is_its_own(self):
        question = ((), (("r", ("a",)),))
        unknowns_of(question).append("?x")
        self.assertEqual(unknowns_of(question), [])


if __name__ == "__main__":
    unittest.main()
