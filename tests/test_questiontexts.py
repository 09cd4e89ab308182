import copy
import itertools
import re
import unittest

from askviews.errors import AskError, Loose, NoText
from askviews.questions import is_question, unknowns_of
from askviews.questiontexts import read, shown

R = ("r", ("?x", "?y"))
S = ("s", ("?y", "a"))
FOUR = ("?x", "a", "?y", "12345678")
TEXTS = [
    ("?x a : r ?x ?y , s ?y a", (("?x", "a"), (R, S))),
    (": r ?x", ((), (("r", ("?x",)),))),
    (": r a", ((), (("r", ("a",)),))),
    ("b : r a", (("b",), (("r", ("a",)),))),
    ("?x : r ?x ?y , r ?x ?y", (("?x",), (R, R))),
    ("?y ?x : s ?y a , r ?x ?y", (("?y", "?x"), (S, R))),
    ("?x a ?y 12345678 : r ?x a ?y 12345678", (FOUR, (("r", FOUR),))),
    ("?x ?x ?x ?x : r ?x", (("?x",) * 4, (("r", ("?x",)),))),
    ("?abcdefgh : abcdefgh ?abcdefgh , 0 abcdefgh",
     (("?abcdefgh",), (("abcdefgh", ("?abcdefgh",)), ("0", ("abcdefgh",))))),
    ("?x a ?y 12345678 : " + " , ".join(["r ?x a ?y 12345678"] * 8), (FOUR, (("r", FOUR),) * 8)),
]

VALUE = "[a-z0-9]{1,8}"
TERM = r"\??" + VALUE
ATOM = VALUE + "(?: " + TERM + "){1,4}"
WHOLE = re.compile("(?:" + TERM + " ){0,4}: " + ATOM + "(?: , " + ATOM + "){0,7}")
# Whatever can go on to a whole text can do so by one of these.
TAILS = ([], ["a"], ["r", "a"], [":", "r", "a"])


def is_whole(words):
    return WHOLE.fullmatch(" ".join(words)) is not None


def can_go_on(words):
    return any([is_whole(words + tail) for tail in TAILS])


def fault_of(text):
    """The number that 7 asks for, told another way: by what can still become a whole text. None of a whole one."""
    words = text.split(" ")
    if is_whole(words):
        return None
    for count in range(1, len(words) + 1):
        if not can_go_on(words[:count]):
            return count - 1
    return len(words)


def told_of(text):
    try:
        return ("read", read(text))
    except NoText as error:
        return ("no text", error.at)
    except Loose as error:
        return ("loose", error.unknown)


class Promise7(unittest.TestCase):
    def refused(self, text, at):
        with self.subTest(text=text):
            with self.assertRaises(NoText) as taken:
                read(text)
            self.assertIs(type(taken.exception.at), int)
            self.assertEqual(taken.exception.at, at)
            self.assertEqual(fault_of(text), at)

    def loose(self, text, unknown):
        with self.subTest(text=text):
            with self.assertRaises(Loose) as taken:
                read(text)
            self.assertEqual(taken.exception.unknown, unknown)


class Promise7Whole(Promise7):
    def test_texts_are_read(self):
        for text, question in TEXTS:
            with self.subTest(text=text):
                self.assertEqual(read(text), question)
                self.assertTrue(is_question(read(text)))
                self.assertIsNone(fault_of(text))

    def test_questions_are_shown(self):
        for text, question in TEXTS:
            with self.subTest(text=text):
                self.assertEqual(shown(question), text)

    def test_every_count_of_head_terms_terms_and_atoms(self):
        for head, terms, atoms in itertools.product(range(5), range(1, 5), range(1, 9)):
            question = (FOUR[:head], (("r", FOUR[:terms]),) * (atoms - 1) + (("s", FOUR),))
            with self.subTest(question=question):
                self.assertEqual(read(shown(question)), question)

    def test_more_than_eight_atoms_are_shown(self):
        for count in (9, 40, 500):
            atoms = tuple([("r", ("?" + str(number), "a")) for number in range(count)])
            text = shown((("?0", "b"), atoms))
            self.assertEqual(text, "?0 b : " + " , ".join([f"r ?{number} a" for number in range(count)]))
            self.refused(text, 34)


class Promise7Refused(Promise7):
    def test_a_text_without_words(self):
        self.refused("", 0)

    def test_words_without_signs(self):
        for text, at in (
            (" ", 0), ("  ", 0), (" : r a", 0), ("a  : r a", 1), ("a :  r a", 2), (":  r a", 1), (": r  a", 2),
            (": r a ", 3), (": r a  ", 3), (": r a  , s a", 3), (": r a ,  s a", 4), (": r a , s a ", 6), (": ", 1),
            ("a ", 1), (": r ", 2), (": r a , ", 4), (": r a , s ", 5),
        ):
            self.refused(text, at)

    def test_where_words_lack(self):
        for text, at in (
            ("a", 1), ("?x", 1), ("a ?x", 2), ("a ?x b ?y", 4), (":", 1), ("a :", 2), ("a b c d :", 5), (": r", 2),
            ("a : r", 3), (": r a ,", 4), (": r a , s", 5), (": r a b c d ,", 7), (": r a b c d , s", 8),
            (": " + " , ".join(["r a"] * 7) + " ,", 22), (": " + " , ".join(["r a"] * 7) + " , s", 23),
        ):
            self.refused(text, at)
            self.assertEqual(at, len(text.split(" ")))

    def test_a_head_term_that_is_none(self):
        for wrong in ("?", "??x", "A", "?A", "x?", "abcdefghi", "?abcdefghi", "a-b", ",", "::", ":r", "a:", "a,", ";"):
            for place in range(4):
                head = ["?x", "a", "b", "c"]
                head[place] = wrong
                self.refused(" ".join(head) + " : r ?x", place)
                self.refused(" ".join(head[:place + 1]), place)

    def test_a_heads_fifth_term(self):
        self.refused("a b c d e : r a", 4)
        self.refused("?x ?x ?x ?x ?x : r ?x", 4)
        self.refused("a b c d ?x", 4)
        self.refused("a b c d e f g", 4)

    def test_a_name_that_is_none(self):
        for wrong in ("?x", "?r", "R", "rR", "abcdefghi", "?", ":", ",", "r,", "r-s", "::"):
            self.refused(": " + wrong + " a", 1)
            self.refused("a ?x : " + wrong, 3)
            self.refused(": r a b , " + wrong + " a", 5)
            self.refused(": r a , s a , " + wrong, 7)

    def test_an_atoms_term_that_is_none(self):
        for wrong in ("?", "??x", "A", "?A", "x?", "abcdefghi", "?abcdefghi", "a-b", ":", "::", "a,", "a:"):
            for place in range(4):
                terms = ["a", "?x", "b", "c"]
                terms[place] = wrong
                self.refused(": r " + " ".join(terms), place + 2)
                self.refused("a : r b , s " + " ".join(terms) + " , t a", place + 6)

    def test_an_atoms_fifth_term(self):
        self.refused(": r a b c d e", 6)
        self.refused(": r a b c d ?x , s a", 6)
        self.refused("?x : r ?x , s a b c d e", 10)
        self.refused(": r a b c d A", 6)

    def test_a_second_colon(self):
        self.refused(": :", 1)
        self.refused("a : : r a", 2)
        self.refused(": r :", 2)
        self.refused(": r : a", 2)
        self.refused(": r a :", 3)
        self.refused(": r a b c d :", 6)
        self.refused(": r a , :", 4)
        self.refused(": r a , s a : t a", 6)

    def test_a_comma_where_no_atom_has_ended(self):
        self.refused(",", 0)
        self.refused("a , : r a", 1)
        self.refused("a b c d , r a", 4)
        self.refused(": , r a", 1)
        self.refused(": r , s a", 2)
        self.refused(": r ,", 2)
        self.refused(": r a , , s a", 4)
        self.refused(": r a , s , t a", 5)

    def test_the_comma_behind_the_eighth_atom(self):
        eight = ": " + " , ".join(["r a"] * 8)
        self.assertEqual(read(eight), ((), (("r", ("a",)),) * 8))
        self.refused(eight + " ,", 24)
        self.refused(eight + " , r a", 24)
        self.refused(eight + " , R", 24)
        self.refused("a b c d : " + " , ".join(["r a b c d"] * 9), 52)
        self.refused(eight + " b c d e", 27)

    def test_the_first_fault_is_told(self):
        self.refused("A : R", 0)
        self.refused("a : r , : A", 3)
        self.refused(": r A B , , :", 2)
        self.refused("a b c d e A", 4)

    def test_all_short_texts(self):
        for count in range(1, 6):
            for words in itertools.product(("?x", "a", ":", ",", "", "?A"), repeat=count):
                text = " ".join(words)
                self.agrees(text)

    def test_each_word_of_a_long_text_changed_left_out_or_doubled(self):
        for text, unused in TEXTS:
            words = text.split(" ")
            for at, word in itertools.product(range(len(words) + 1), ("?z", "b", ":", ",", "", "?A")):
                self.agrees(" ".join(words[:at] + [word] + words[at:]))
                self.agrees(" ".join(words[:at] + [word] + words[at + 1:]))
                self.agrees(" ".join(words[:at] + words[at + 1:]))
                self.agrees(" ".join(words[:at]))

    def agrees(self, text):
        kind, told = told_of(text)
        at = fault_of(text)
        if at is not None:
            self.assertEqual((kind, told), ("no text", at), text)
        elif kind == "read":
            self.assertTrue(is_question(told), text)
            self.assertEqual(shown(told), text)
        else:
            head, unused, atoms = text.partition(":")
            free = [word for word in head.split(" ") if word.startswith("?") and word not in atoms.split(" ")]
            self.assertEqual((kind, told), ("loose", free[0]), text)


class Promise7Loose(Promise7):
    def test_the_first_unknown_of_the_head_that_stands_in_no_atom(self):
        for text, unknown in (
            ("?z : r ?x", "?z"),
            ("?x ?z : r ?x", "?z"),
            ("?z ?x : r ?x", "?z"),
            ("?z ?u : r ?x", "?z"),
            ("?u ?z : r ?x", "?u"),
            ("?x ?u a ?z : r ?x", "?u"),
            ("a ?y ?x b : r ?x , s ?x", "?y"),
            ("?x : x x", "?x"),
            ("?r : r r", "?r"),
            ("?x : r ?xx", "?x"),
            ("?xx : r ?x", "?xx"),
            ("?z ?z : r a", "?z"),
            ("?z : " + " , ".join(["r ?x"] * 8), "?z"),
        ):
            self.loose(text, unknown)

    def test_an_unknown_in_the_last_atom_alone_is_not_loose(self):
        text = "?z : " + " , ".join(["r ?x"] * 7) + " , s a b c ?z"
        self.assertEqual(shown(read(text)), text)

    def test_a_text_that_is_none_is_refused_ahead_of_it(self):
        self.refused("?z", 1)
        self.refused("?z :", 2)
        self.refused("?z : r", 3)
        self.refused("?z : r ?x ,", 5)
        self.refused("?z : r ?x , s", 6)
        self.refused("?z : r ?x A", 4)
        self.refused("?z : " + " , ".join(["r ?x"] * 9), 25)

    def test_refusals_are_taken_by_the_base(self):
        for text in ("", "?z : r ?x"):
            with self.assertRaises(AskError):
                read(text)


class Promise2(unittest.TestCase):
    def test_what_is_told_is_made_of_tuples_and_texts(self):
        head, atoms = read("?x a : r ?x ?y , s ?y a")
        self.assertIs(type(head), tuple)
        self.assertIs(type(atoms), tuple)
        for atom in atoms:
            self.assertEqual([type(part) for part in atom], [str, tuple])
            self.assertIs(type(atom), tuple)
        self.assertIs(type(read(": r a")[0]), tuple)
        self.assertIs(type(shown((head, atoms))), str)

    def test_what_is_handed_in_stays_as_it_was(self):
        for text, question in TEXTS:
            before = copy.deepcopy(question)
            shown(question)
            self.assertEqual(question, before)

    def test_nothing_hangs_on_what_was_asked_before(self):
        texts = [text for text, unused in TEXTS] + ["", "?z : r a", ": r a ,", "A"]
        first = [told_of(text) for text in texts]
        self.assertEqual([told_of(text) for text in reversed(texts)], first[::-1])

    def test_a_question_that_was_read_can_be_handed_in(self):
        self.assertEqual(unknowns_of(read("?y : r ?x ?y , s ?y ?z")), ["?x", "?y", "?z"])


if __name__ == "__main__":
    unittest.main()
