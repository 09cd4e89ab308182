import copy
import itertools
import random
import unittest

from askviews.answers import answers, counted
from askviews.errors import AskError, NoView
from askviews.questions import unknowns_of
from askviews.questiontexts import read, shown
from askviews.unfolding import unfolded
from askviews.views import is_views, seen
from askviews.within import is_map, within
from tests.helping import (
    answers_plainly, is_answer_plainly, is_unfolded_plainly, some_question, some_tables, some_views, unknowns_plainly,
)


def views_of(*texts):
    return [(name, read(text)) for name, text in texts]


VIEWS = views_of(("v", "?x ?y : r ?x ?z , s ?z ?y"), ("w", "?x : r ?x ?x"), ("u", "?y ?x : r ?x ?y , s k ?u"),
                 ("r", "?x ?y ?z ?u : t ?u ?z , t ?y ?x , s ?x ?a"))


class Unfolding(unittest.TestCase):
    def told(self, views, question):
        question = read(question) if isinstance(question, str) else question
        self.assertTrue(is_views(views))
        told = unfolded(views, question)
        self.assertTrue(is_unfolded_plainly(views, question, told), (question, told))
        return told

    def refused(self, views, question, place):
        question = read(question) if isinstance(question, str) else question
        with self.subTest(question=question):
            with self.assertRaises(NoView) as caught:
                unfolded(views, question)
            self.assertEqual(caught.exception.place, place)
            self.assertIs(type(caught.exception.place), int)
            self.assertIsInstance(caught.exception, AskError)


class Promise17(Unfolding):
    def test_without_new_unknowns(self):
        views = views_of(("v", "?x ?y : r ?x ?y , s ?y ?x"), ("w", "?x : t ?x k"))
        for text, expected in (
            ("?a : v ?a ?b", "?a : r ?a ?b , s ?b ?a"),
            ("?x ?y : v ?y ?x", "?x ?y : r ?y ?x , s ?x ?y"),
            (": w ?a", ": t ?a k"),
            (": w k", ": t k k"),
            ("?a a : v ?a a , w ?a", "?a a : r ?a a , s a ?a , t ?a k"),
            ("?a : w ?a , w ?b , w ?a", "?a : t ?a k , t ?b k , t ?a k"),
            ("b : v ?x ?x", "b : r ?x ?x , s ?x ?x"),
            (": v a b", ": r a b , s b a"),
        ):
            self.assertEqual(shown(self.told(views, text)), expected)

    def test_new_unknowns(self):
        told = self.told(VIEWS, "?a : v ?a ?b")
        head, atoms = told
        new = atoms[0][1][1]
        self.assertEqual(told, (("?a",), (("r", ("?a", new)), ("s", (new, "?b")))))
        self.assertNotIn(new, ("?a", "?b"))

    def test_for_each_atom_new_unknowns_of_its_own(self):
        head, atoms = self.told(VIEWS, "?a ?b : v ?a ?b , v ?a ?b , v ?b ?a , u ?a ?b")
        new = [atoms[0][1][1], atoms[2][1][1], atoms[4][1][1], atoms[7][1][1]]
        self.assertEqual(len(set(new + ["?a", "?b"])), 6)
        for count in range(1, 9):
            question = ((), (("v", ("?a", "?a")),) * count)
            self.assertEqual(len(unknowns_of(self.told(VIEWS, question))), 1 + count)

    def test_unknowns_called_alike_in_the_question_and_in_views(self):
        names = ("?x", "?y", "?z", "?u", "?a")
        for first, second in itertools.product(names, names):
            self.told(VIEWS, ((first, second), (("v", (first, second)), ("u", (second, first)))))
            self.told(VIEWS, ((), (("w", (first,)), ("r", (second, first, "?z", second)), ("v", ("?z", "?x")))))
        self.assertEqual(shown(self.told(VIEWS, "?y : w ?y")), "?y : r ?y ?y")
        head, atoms = self.told(VIEWS, "?z : v ?z ?z")
        self.assertEqual((atoms[0][1][0], atoms[1][1][1]), ("?z", "?z"))
        self.assertNotEqual(atoms[0][1][1], "?z")

    def test_the_heads_unknowns_are_given_at_once_and_not_one_behind_another(self):
        views = views_of(("v", "?x ?y ?z ?u : r ?x ?y ?z ?u"))
        for terms in itertools.permutations(("?x", "?y", "?z", "?u")):
            self.assertEqual(self.told(views, ((), (("v", terms),))), ((), (("r", terms),)))

    def test_an_unknown_twice_in_an_atom(self):
        self.assertEqual(shown(self.told(VIEWS, "?b : w ?b")), "?b : r ?b ?b")
        head, atoms = self.told(VIEWS, ": v ?b ?b , u ?b ?b")
        self.assertEqual(atoms[:3], (("r", ("?b", atoms[0][1][1])), ("s", (atoms[0][1][1], "?b")), ("r", ("?b", "?b"))))
        head, atoms = self.told(VIEWS, ": r ?b ?c ?b ?c")
        self.assertEqual(atoms[:2], (("t", ("?c", "?b")), ("t", ("?c", "?b"))))

    def test_values(self):
        head, atoms = self.told(VIEWS, "a ?q : v a ?q , u k k")
        self.assertEqual(head, ("a", "?q"))
        self.assertEqual(atoms[0], ("r", ("a", atoms[0][1][1])))
        self.assertEqual(atoms[2], ("r", ("k", "k")))
        self.assertEqual(atoms[3], ("s", ("k", atoms[3][1][1])))
        views = views_of(("v", "?a : r a ?a b , s b"))
        for term in ("a", "b", "?a", "?b", "v", "r"):
            self.assertEqual(self.told(views, ((), (("v", (term,)),))), ((), (("r", ("a", term, "b")), ("s", ("b",)))))

    def test_unknowns_called_like_new_ones_that_were_told(self):
        question = read("?x ?y : v ?x ?y , v ?y ?x")
        told = self.told(VIEWS, question)
        for unused in range(6):
            own = unknowns_of(told)
            question = ((own[0], own[-1]), tuple([("v", (own[number], own[number - 1])) for number in range(len(own))]))
            question = (question[0], question[1][:8])
            if any([term not in unknowns_of(question) for term in question[0]]):
                question = ((), question[1])
            told = self.told(VIEWS, question)

    def test_unknowns_called_like_any_new_one(self):
        new = [term for term in unknowns_of(unfolded(VIEWS, read(": v k k , v k k , v k k"))) if term]
        self.assertEqual(len(new), 3)
        for pair in itertools.product(new + ["?x"], repeat=2):
            self.told(VIEWS, (pair, (("v", pair), ("v", pair), ("u", pair))))
        views = [("v", ((new[0],), (("r", (new[0], new[1], new[2])),))), ("w", ((new[2],), (("r", (new[2], new[0])),)))]
        for first, second in itertools.product(new + ["?x"], repeat=2):
            self.told(views, ((first,), (("v", (first,)), ("w", (second,)), ("v", (second,)))))

    def test_a_view_called_as_a_table_is(self):
        views = views_of(("r", "?x : s ?x ?y"), ("s", "?x ?y : r ?y ?x"))
        self.assertEqual(shown(self.told(views, "?a : s ?a ?b")), "?a : r ?b ?a")
        head, atoms = self.told(views, "?a : r ?a , s ?a k")
        self.assertEqual([name for name, terms in atoms], ["s", "r"])

    def test_views_alike_and_atoms_alike_stay(self):
        views = views_of(("v", "?x : r ?x , r ?x"), ("w", "?x : r ?x , r ?x"))
        self.assertEqual(shown(self.told(views, "?a : v ?a , w ?a , v ?a")), "?a : " + " , ".join(["r ?a"] * 6))

    def test_more_than_eight_atoms(self):
        views = views_of(("v", "?x ?y : r ?x ?a , r ?a ?b , r ?b ?c , r ?c ?y"))
        atoms = tuple([("v", ("?" + str(step), "?" + str(step + 1))) for step in range(8)])
        told = self.told(views, (("?0", "?8"), atoms))
        self.assertEqual(len(told[1]), 32)
        self.assertEqual(len(unknowns_of(told)), 33)
        ring = [("0", "1"), ("1", "2"), ("2", "0")]
        self.assertEqual(answers(told, {"r": ring}), [("0", "2"), ("1", "0"), ("2", "1")])
        self.assertEqual(counted(told, {"r": ring})[0], (("0", "2"), 1))
        self.assertEqual(shown(told).count(","), 31)
        self.assertEqual(within(told, read("?x ?y : r ?x ?z , r ?u ?y"))[0], "within")
        self.assertEqual(within(told, read("?x ?x : r ?x ?z"))[0], "parted")
        own = sorted(unknowns_of(told))
        self.assertIs(is_map(told, told, list(zip(own, own))), True)

    def test_views_of_as_many_atoms_as_a_question_may_have(self):
        views = [("v", (("?0",), tuple([("r", ("?" + str(step), "?" + str(step + 1))) for step in range(8)])))]
        told = self.told(views, ((), (("v", ("?0",)),) * 8))
        self.assertEqual((len(told[1]), len(unknowns_of(told))), (64, 65))

    def test_many_views(self):
        views = [("v" + str(number), read("?x : r ?x ?y")) for number in range(40)]
        self.told(views, ((), tuple([("v" + str(number), ("?x",)) for number in range(0, 40, 5)])))

    def test_answers_are_those_of_what_the_views_see(self):
        chance = random.Random(17)
        some = 0
        for unused in range(400):
            views = some_views(chance, "vwr", "rs", ["?x", "?y", "?n0", "?z", "1"], 2, 2)
            arity = {name: len(question[0]) for name, question in views}
            atoms = []
            for unused in range(chance.randrange(1, 4)):
                name = chance.choice(sorted(arity) or ["v"])
                atoms.append((name, tuple([chance.choice(["?x", "?y", "?n0", "?n1", "2"])
                                           for unused in range(arity.get(name, 1))])))
            if not views:
                continue
            own = unknowns_plainly(((), tuple(atoms)))
            question = (tuple(own[:2]) + ("9",), tuple(atoms))
            told = self.told(views, question)
            tables = some_tables(chance, "rs", "12", 5, 2)
            expected = answers_plainly(question, {name: answers_plainly(view, tables) for name, view in views})
            self.assertEqual(answers(told, tables), expected)
            self.assertEqual(answers(question, seen(views, tables)), expected)
            for row in expected:
                self.assertTrue(is_answer_plainly(told, tables, row))
            some += expected != []
        self.assertGreater(some, 100)


class Promise17Refused(Unfolding):
    def test_no_view_is_called_so(self):
        self.refused(VIEWS, ": x ?a", 0)
        self.refused(VIEWS, ": s ?a ?b", 0)
        self.refused(VIEWS, "?a : w ?a , t ?a ?b", 1)
        self.refused([], ": v ?a ?b", 0)
        self.refused(VIEWS, ": vv ?a ?b", 0)

    def test_the_view_is_of_another_length(self):
        for name, length in (("v", 2), ("w", 1), ("u", 2), ("r", 4)):
            for count in range(1, 5):
                question = ((), ((name, ("?a",) * count),))
                if count == length:
                    self.told(VIEWS, question)
                else:
                    self.refused(VIEWS, question, 0)
        self.refused(VIEWS, ": r ?a ?b", 0)

    def test_each_place(self):
        for wrong in (("x", ("?a",)), ("v", ("?a",)), ("v", ("?a", "?b", "a")), ("s", ("?a", "?b")), ("w", ("a", "a"))):
            for count in range(1, 9):
                for place in range(count):
                    atoms = [("v", ("?a", "?b")), ("w", ("?a",))] * 4
                    atoms = atoms[:count]
                    atoms[place] = wrong
                    self.refused(VIEWS, ((), tuple(atoms)), place)

    def test_the_first_of_several(self):
        self.refused(VIEWS, ": v ?a ?b , x ?a , v ?a , y ?b", 1)
        self.refused(VIEWS, ": v ?a ?b , v ?a , x ?a , y ?b", 1)
        for first, second in itertools.combinations(range(8), 2):
            atoms = [("w", ("?a",))] * 8
            atoms[first], atoms[second] = ("w", ("?a", "?a")), ("q", ("?a",))
            self.refused(VIEWS, ((), tuple(atoms)), first)
            atoms[first], atoms[second] = ("q", ("?a",)), ("w", ("?a", "?a"))
            self.refused(VIEWS, ((), tuple(atoms)), first)

    def test_what_is_refused_changes_nothing(self):
        views = copy.deepcopy(VIEWS)
        self.refused(views, ": v ?a ?b , x ?a", 1)
        self.assertEqual(views, VIEWS)
        self.told(views, ": v ?a ?b")


class Promise2(Unfolding):
    def test_what_is_handed_in_stays_as_it_was(self):
        views = copy.deepcopy(VIEWS)
        question = read("?a : v ?a ?b , w ?a , r ?a ?b a ?a")
        unfolded(views, question)
        self.assertEqual(views, VIEWS)
        self.assertEqual(question, read("?a : v ?a ?b , w ?a , r ?a ?b a ?a"))

    def test_what_is_done_to_the_views_afterwards_changes_nothing(self):
        views = views_of(("v", "?x : r ?x"))
        told = unfolded(views, read("?a : v ?a"))
        views[0] = ("v", read("?x : s ?x"))
        self.assertEqual(told, read("?a : r ?a"))
        self.assertEqual(unfolded(views, read("?a : v ?a")), read("?a : s ?a"))
        views.clear()
        self.refused(views, "?a : v ?a", 0)

    def test_nothing_hangs_on_what_was_asked_before(self):
        texts = ("?a : v ?a ?b , v ?b ?a", ": w ?x", "?x : u ?y ?x", ": r a ?b ?b a")
        for order in itertools.permutations(texts):
            for text in order:
                self.told(VIEWS, text)

    def test_views_that_somebody_asks_of_questions_by_chance(self):
        chance = random.Random(2)
        for unused in range(300):
            views = some_views(chance, "rsv", "rst", ["?x", "?y", "?z", "?n0", "?n1", "a"], 4, 4)
            question = some_question(chance, "rsv", ["?x", "?y", "?n0", "?n1", "?n2", "a"], 1, 8, 4, 4)
            arity = {name: len(view[0]) for name, view in views}
            wrong = [place for place, (name, terms) in enumerate(question[1]) if arity.get(name) != len(terms)]
            if wrong:
                self.refused(views, question, wrong[0])
            else:
                self.told(views, question)


if __name__ == "__main__":
    unittest.main()
