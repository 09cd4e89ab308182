import copy
import itertools
import random
import unittest

from askviews.answers import answers, counted
from askviews.least import least
from askviews.questions import is_question
from askviews.questiontexts import read
from askviews.tables import is_tables
from askviews.within import is_map, same
from tests.helping import (
    answers_plainly, are_told_tables, holders, is_map_plainly, maps_plainly, some_question, some_tables, spoil,
    unknowns_plainly,
)


def fewer_atoms(question, place):
    return (question[0], question[1][:place] + question[1][place + 1:])


def is_still_one(question):
    """Whether it is a question without what was left out of it, as 14 says."""
    bound = unknowns_plainly(question)
    return len(question[1]) > 0 and all([term in bound for term in question[0] if term[0] == "?"])


def is_part_in_order(some, all_of_them):
    left = list(all_of_them)
    for thing in some:
        if thing not in left:
            return False
        left = left[left.index(thing) + 1:]
    return True


def asks_the_same_plainly(one, other):
    return maps_plainly(one, other) != [] and maps_plainly(other, one) != []


def least_forms_plainly(question):
    """As 14 says it: of all forms with some of the atoms, those that ask the same and lose by each atom left out."""
    head, atoms = question
    forms = []
    for kept in itertools.product([True, False], repeat=len(atoms)):
        form = (head, tuple([atom for atom, stays in zip(atoms, kept) if stays]))
        if is_still_one(form) and asks_the_same_plainly(form, question):
            shorter = [fewer_atoms(form, place) for place in range(len(form[1]))]
            if not any([is_still_one(one) and asks_the_same_plainly(one, question) for one in shorter]):
                forms.append(form)
    return forms


class Shown(unittest.TestCase):
    def check(self, question, count, plainly=True):
        """All that 14 says of what is told; tells the form."""
        question = read(question) if isinstance(question, str) else question
        with self.subTest(question=question):
            told = least(question)
            self.assertEqual((type(told), len(told)), (tuple, 3))
            form, fold, shows = told
            self.assertEqual(form[0], question[0])
            self.assertTrue(is_part_in_order(form[1], question[1]), form)
            if count is not None:
                self.assertEqual(len(form[1]), count)
            self.assertTrue(is_question(form) or len(form[1]) > 8)
            self.assertIs(type(fold), list)
            self.assertTrue(is_map_plainly(form, question, fold), fold)
            self.assertIs(is_map(form, question, fold), True)
            self.assertEqual((type(shows), len(shows)), (list, len(form[1])))
            for place, show in enumerate(shows):
                self.check_show(form, fewer_atoms(form, place), show, plainly)
            return form

    def check_show(self, form, fewer, show, plainly):
        if not is_still_one(fewer):
            self.assertIsNone(show)
            return
        self.assertEqual((type(show), len(show)), (tuple, 2))
        tables, row = show
        self.assertTrue(is_tables(tables) and are_told_tables(tables), tables)
        self.assertIs(type(row), tuple)
        self.assertIn(row, answers(fewer, tables))
        self.assertNotIn(row, answers(form, tables))
        self.assertNotIn(row, [answer for answer, count in counted(form, tables)])
        if plainly:
            self.assertIn(row, answers_plainly(fewer, tables))
            self.assertNotIn(row, answers_plainly(form, tables))


class Promise14(Shown):
    def test_ordinary_questions(self):
        for text, count in (
            ("?x : r ?x ?y", 1),
            ("?x : r ?x ?y , r ?x ?z", 1),
            ("?x : r ?x ?z , r ?u ?z , s ?z ?x", 2),
            ("?x ?y : r ?x ?z , r ?y ?z", 2),
            ("?x ?z : r ?x ?y , r ?y ?z , r ?x ?u", 2),
            (": r ?x ?y , r ?y ?z , r ?z ?z", 1),
            (": r ?x ?y , r ?y ?z", 2),
            (": r ?x ?y , r ?y ?x", 2),
            (": r ?x ?y , r ?y ?z , r ?z ?x , r ?u ?u", 1),
            ("?x : r ?x ?y , r ?y ?z , r ?z ?z", 3),
            ("?x : r ?x ?y , s ?y , r ?x ?z", 2),
            ("?x : r ?x ?y , s ?y , r ?x ?z , t ?z", 4),
            ("?x : r ?x , s ?x", 2),
            (": r ?x , s ?y , r ?z , s ?z", 2),
            (": r ?x ?y ?z ?u , r ?x ?x ?z ?u , r ?x ?x ?x ?x", 1),
        ):
            self.check(text, count)

    def test_values(self):
        for text, count in (
            (": r a", 1),
            (": r a , r ?x", 1),
            (": r a , r b", 2),
            (": r a , r b , r ?x , r ?y", 2),
            (": r a ?x , r ?y b", 2),
            (": r a ?x , r ?y b , r a b", 1),
            ("a : r ?x , r ?y", 1),
            ("a : r a , r ?y , s a", 2),
            ("?x a : r ?x a , r ?x ?y", 1),
            ("?x ?y : r ?x a , r ?x ?y", 2),
            (": r ?x ?x , r a a , r a b", 2),
            ("b : r ?x a , r ?y ?z , r ?x ?z", 1),
            ("n0 : r n0 ?x , r ?n0 n1", 2),
            ("n0 : r n0 n1 , r ?n0 n1 , r n0 ?n1 , r n2 ?n1", 3),
        ):
            self.check(text, count)

    def test_one_atom(self):
        for text in (": r ?x", "?x : r ?x", ": r a", "a : r b", "?x ?y : r ?y ?x", "a : r ?x"):
            question = read(text)
            form, unused, shows = least(question)
            self.assertEqual((form, shows), (question, [None]))
            self.check(text, 1)

    def test_alike_atoms(self):
        for text, count in (
            (": r ?x , r ?x", 1),
            ("?x : r ?x , r ?x", 1),
            (": r a , r a , r a", 1),
            (": r ?x ?y , s ?x , r ?x ?y , s ?x", 2),
            ("?y : r ?x ?y , s ?x , r ?x ?y , s ?x , r ?z ?y", 2),
            ("?x : " + " , ".join(["r ?x"] * 8), 1),
            (": " + " , ".join(["r ?x ?y , s ?y"] * 4), 2),
        ):
            self.check(text, count)

    def test_an_atom_without_which_it_is_no_question(self):
        self.assertEqual(least(read("?x ?y : r ?x , s ?y"))[2], [None, None])
        shows = least(read("?x : r ?x , s a"))[2]
        self.assertIsNone(shows[0])
        self.assertEqual(shows[1][1:], (shows[1][0]["r"][0],))
        shows = least(read("?x : r ?x ?y , s ?y"))[2]
        self.assertEqual([show is None for show in shows], [True, False])
        shows = least(read("?x : r ?x ?y , s ?y ?x"))[2]
        self.assertEqual([show is None for show in shows], [False, False])
        shows = least(read("?x ?y : r ?x ?y , r ?y ?z"))[2]
        self.assertEqual([show is None for show in shows], [True, False])
        for text in ("?x ?y : r ?x , s ?y", "?x : r ?x , s a", "?x : r ?x ?y , s ?y", "?x : r ?x ?y , s ?y ?x"):
            self.check(text, 2)

    def test_an_atom_that_only_the_head_needs_stays(self):
        self.check("?x ?y : r ?x , r ?y", 2)
        self.check("?x ?y ?z ?u : r ?x , r ?y , r ?z , r ?u , r ?v", 4)
        self.check("?x ?x : r ?x , r ?y", 1)
        self.check("?x ?y : r ?x ?y , r ?x ?z , r ?u ?y", 1)

    def test_the_atoms_stay_in_their_order(self):
        for order in itertools.permutations(["r ?x ?y", "s ?y", "t ?y ?x", "r ?u ?v", "s ?w"]):
            form = self.check("?x : " + " , ".join(order), 3)
            kept = [atom for atom in read("?x : " + " , ".join(order))[1] if "?x" in atom[1] or "?y" in atom[1]]
            self.assertEqual(list(form[1]), kept)

    def test_the_least_of_a_least_form_is_itself(self):
        for text in ("?x : r ?x ?z , r ?u ?z , s ?z ?x", ": r ?x ?y , r ?y ?z , r ?z ?z", ": r a , r ?x , r b"):
            form = least(read(text))[0]
            self.assertEqual(least(form)[0], form)

    def test_eight_atoms(self):
        ring = " , ".join(["r ?" + str(step) + " ?" + str((step + 1) % 8) for step in range(8)])
        chain = " , ".join(["r ?" + str(step) + " ?" + str(step + 1) for step in range(8)])
        pairs = " , ".join(["r ?" + str(step) + " ?" + str(step + 1) + " , r ?" + str(step + 1) + " ?" + str(step)
                            for step in range(4)])
        star = " , ".join(["r ?x ?" + str(step) for step in range(8)])
        spread = " , ".join(["r ?a" + str(step) + " ?b" + str(step) for step in range(8)])
        wide = " , ".join(["r ?" + str(step) + " ?b a ?" + str(step + 1) for step in range(8)])
        marked = " , ".join(["r ?x ?" + str(step) + " v" + str(step) for step in range(8)])
        for text, count in (
            (": " + ring, 8),
            ("?0 : " + ring, 8),
            (": " + chain, 8),
            ("?0 ?8 : " + chain, 8),
            (": " + pairs, 2),
            ("?0 ?4 : " + pairs, 8),
            ("?2 : " + pairs, 2),
            ("?x : " + star, 1),
            ("?x ?0 ?3 : " + star, 2),
            (": " + spread, 1),
            ("?a0 ?b1 ?a2 ?b2 : " + spread, 3),
            (": " + wide, 8),
            ("?x : " + marked, 8),
            (": r ?a ?b , r ?b ?c , r ?c ?d , r ?d ?a , r ?e ?f , r ?f ?e , r ?g ?e , r ?f ?h", 2),
            (": r ?a ?b , r ?b ?a , r ?b ?c , r ?c ?b , r ?c ?a , r ?a ?c , r ?d ?a , r ?a ?d", 6),
        ):
            self.check(text, count, False)

    def test_somewhat_more_than_eight_atoms(self):
        chain = tuple([("r", ("?" + str(step), "?" + str(step + 1))) for step in range(10)])
        self.check(((), chain), 10, False)
        self.check((("?0",), chain + (("r", ("?0", "?x")),)), 10, False)

    def test_against_all_forms_tried(self):
        chance = random.Random(14)
        folded = kept = 0
        for unused in range(250):
            question = some_question(chance, "rs", ["?x", "?y", "?z", "?u", "a"], 2, 5, 2, 2)
            form = self.check(question, None)
            forms = least_forms_plainly(question)
            self.assertIn(form, forms)
            folded += len(form[1]) < len(set(question[1]))
            kept += form == question
        self.assertGreater(min(folded, kept), 50)


class Promise15(Shown):
    def test_all_least_forms_have_as_many_atoms(self):
        chance = random.Random(15)
        several = 0
        for unused in range(250):
            question = some_question(chance, "r", ["?x", "?y", "?z", "?u"], 3, 5, 2, 1)
            forms = least_forms_plainly(question)
            several += len(set(forms)) > 1
            self.assertEqual(set([len(form[1]) for form in forms]), set([len(least(question)[0][1])]))
        self.assertGreater(several, 20)

    def test_questions_that_ask_the_same(self):
        chance = random.Random(150)
        for unused in range(200):
            question = some_question(chance, "rs", ["?x", "?y", "?z", "a"], 1, 5, 2, 2)
            count = len(least(question)[0][1])
            for other in (self.shuffled(chance, question), self.renamed(question), self.padded(chance, question)):
                self.assertEqual(same(question, other)[0], "same")
                self.check(other, count, False)

    def shuffled(self, chance, question):
        return (question[0], tuple(chance.sample(question[1], len(question[1]))))

    def renamed(self, question):
        given = {"?x": "?y", "?y": "?n0", "?z": "?x"}
        atoms = [(name, tuple([given.get(term, term) for term in terms])) for name, terms in question[1]]
        return (tuple([given.get(term, term) for term in question[0]]), tuple(atoms))

    def padded(self, chance, question):
        """With atoms that fold onto its own: their unknowns stand nowhere else."""
        atoms = list(question[1])
        for number in range(8 - len(atoms)):
            name, terms = chance.choice(question[1])
            new = ["?new" + str(number) if chance.randrange(2) else term for term in terms[:1]] + list(terms[1:])
            atoms.insert(chance.randrange(len(atoms) + 1), (name, tuple(new)))
        return (question[0], tuple(atoms))


class Promise4(unittest.TestCase):
    def test_a_least_form_has_the_same_answers(self):
        chance = random.Random(4)
        shorter = 0
        for unused in range(300):
            question = some_question(chance, "rs", ["?x", "?y", "?z", "?u"], 2, 6, 2, 2)
            form = least(question)[0]
            shorter += form != question
            for unused in range(5):
                tables = some_tables(chance, "rs", "123", 6, 2)
                self.assertEqual(answers(form, tables), answers(question, tables))
                self.assertEqual([row for row, count in counted(form, tables)], answers(question, tables))
        self.assertGreater(shorter, 100)


class Promise2(unittest.TestCase):
    texts = (
        "?x : r ?x ?z , r ?u ?z , s ?z ?x",
        ": r ?x ?y , r ?y ?z , r ?z ?z",
        ": r a , r b , s c",
        "?x ?y : r ?x , s ?y",
        ": r ?x ?y , r ?y ?x , s ?x , s ?y",
    )

    def test_the_question_stays_as_it_was(self):
        for text in self.texts:
            question = read(text)
            least(question)
            self.assertEqual(question, read(text))

    def test_what_is_told_can_be_changed_and_is_told_again(self):
        for text in self.texts:
            told = least(read(text))
            kept = least(read(text))
            before = copy.deepcopy(kept)
            spoil(told)
            self.assertEqual(kept, before)
            again = least(read(text))
            self.assertNotIn("spoilt", repr(again))
            self.assertEqual(len(again[0][1]), len(before[0][1]))

    def test_no_two_places_hold_one_list_or_dict(self):
        for text in self.texts:
            held = [id(holder) for holder in holders(least(read(text)))]
            self.assertGreater(len(held), 1)
            self.assertEqual(len(set(held)), len(held))

    def test_nothing_hangs_on_what_was_asked_before(self):
        first = [len(least(read(text))[0][1]) for text in self.texts]
        again = [len(least(read(text))[0][1]) for text in reversed(self.texts)]
        self.assertEqual(again[::-1], first)


if __name__ == "__main__":
    unittest.main()
