import copy
import itertools
import random
import unittest

from askviews.answers import answers, counted
from askviews.errors import AskError, TooMany
from askviews.questions import is_question, unknowns_of
from askviews.questiontexts import read, shown
from askviews.rewriting import candidates, rewritten, spare_ways
from askviews.tables import is_tables
from askviews.unfolding import unfolded
from askviews.views import is_views, seen
from askviews.within import is_map
from tests.helping import (
    are_told_tables, has_map_plainly, holders, is_answer_plainly, is_map_plainly, is_unfolded_plainly, maps_plainly,
    same_plainly, some_question, some_tables, some_views, spoil, unfolded_plainly, unknowns_plainly,
)


def views_of(*texts):
    return [(name, read(text)) for name, text in texts]


def atoms_of(text):
    return list(read(": " + text)[1]) if text else []


def candidates_plainly(views, question):
    """As 18 says it: every way to give a view's unknowns terms of the question is tried."""
    found = []
    for name, (head, atoms) in views:
        maps = maps_plainly(((), question[1]), ((), atoms))
        images = [tuple([dict(pairs)[term] for term in head]) for pairs in maps]
        found.extend([(name, terms) for terms in sorted(set(images))])
    return found


def is_whole_plainly(views, question, atoms):
    """As 19 says it."""
    rewriting = (question[0], tuple(atoms))
    if not atoms or [term for term in question[0] if term[0] == "?" and term not in unknowns_plainly(rewriting)]:
        return False
    return same_plainly(unfolded_plainly(views, rewriting), question)


def ways_plainly(views, question):
    """As 20 says it: all sets are tried, and of each one all sets with one left out."""
    found = candidates_plainly(views, question)
    numbers = range(len(found))
    sets = [list(way) for count in range(len(found) + 1) for way in itertools.combinations(numbers, count)]
    whole = [way for way in sets if is_whole_plainly(views, question, [found[number] for number in way])]
    return sorted([way for way in whole if not any([way[:place] + way[place + 1:] in whole
                                                    for place in range(len(way))])])


def atoms_over(views, question):
    """All atoms over the views with the question's terms and two terms that it has not."""
    terms = sorted(set(question[0]) | set([term for name, held in question[1] for term in held])) + ["?other", "other"]
    return [(name, chosen) for name, view in views for chosen in itertools.product(terms, repeat=len(view[0]))]


class Rewriting(unittest.TestCase):
    def asked(self, views, question):
        question = read(question) if isinstance(question, str) else question
        self.assertTrue(is_views(views))
        self.assertTrue(is_question(question))
        return question

    def whole(self, views, question, count=None):
        question = self.asked(views, question)
        with self.subTest(views=views, question=question):
            told = rewritten(views, question)
            self.assertIs(type(told), tuple)
            self.assertEqual((told[0], len(told)), ("whole", 5))
            rewriting, flat, pairs, back = told[1:]
            self.check_rewriting(views, question, rewriting, count)
            self.assertTrue(is_unfolded_plainly(views, rewriting, flat), (rewriting, flat))
            for one, other, maps in ((flat, question, pairs), (question, flat, back)):
                self.assertIs(type(maps), list)
                self.assertEqual([(type(pair), len(pair)) for pair in maps], [(tuple, 2)] * len(maps))
                self.assertTrue(is_map_plainly(one, other, maps), maps)
                self.assertIs(is_map(one, other, maps), True)
            return rewriting

    def check_rewriting(self, views, question, rewriting, count):
        self.assertTrue(is_question(rewriting), rewriting)
        self.assertEqual(rewriting[0], question[0])
        places = [candidates(views, question).index(atom) for atom in rewriting[1]]
        self.assertEqual(places, sorted(set(places)))
        self.assertTrue(is_whole_plainly(views, question, rewriting[1]))
        if count is not None:
            self.assertEqual(len(rewriting[1]), count)

    def loose(self, views, question):
        question = self.asked(views, question)
        with self.subTest(views=views, question=question):
            self.assertEqual(rewritten(views, question), ("loose",))
            self.assertEqual(spare_ways(views, question), [])

    def short(self, views, question, plainly=True):
        question = self.asked(views, question)
        with self.subTest(views=views, question=question):
            told = rewritten(views, question)
            self.assertIs(type(told), tuple)
            self.assertEqual((told[0], len(told)), ("short", 3))
            tables, row = told[1:]
            self.assertTrue(is_tables(tables) and are_told_tables(tables), tables)
            self.assertIs(type(row), tuple)
            widest = (question[0], tuple(candidates(views, question)))
            viewed = seen(views, tables)
            self.assertIn(row, answers(widest, viewed))
            self.assertIn(row, [answer for answer, count in counted(widest, viewed)])
            self.assertNotIn(row, answers(question, tables))
            if plainly:
                self.assertTrue(is_answer_plainly(widest, viewed, row))
                self.assertFalse(is_answer_plainly(question, tables, row))
            self.assertEqual(spare_ways(views, question), [])
            return tables, row

    def refused(self, views, question):
        question = self.asked(views, question)
        for ask in (rewritten, spare_ways):
            with self.subTest(views=views, question=question, ask=ask.__name__):
                with self.assertRaises(TooMany) as caught:
                    ask(views, question)
                self.assertIsInstance(caught.exception, AskError)


class Promise18(Rewriting):
    def tells(self, views, question, expected):
        question = self.asked(views, question)
        with self.subTest(views=views, question=question):
            told = candidates(views, question)
            self.assertIs(type(told), list)
            self.assertEqual(told, atoms_of(expected))
            self.assertEqual(told, candidates_plainly(views, question))

    def test_none(self):
        for text in ("?x : r ?x ?x", "?x : r ?x a", "?x : s ?x", "?x : r ?x", "?x : r ?x ?y , s ?y", "?x : r ?x ?y ?z",
                     "?x : r ?y ?x , r ?x ?z"):
            self.tells(views_of(("v", text)), "?x : r ?x ?y", "")
        self.tells([], "?x : r ?x ?y", "")

    def test_of_one_view(self):
        for text, expected in (
            ("?x ?y : r ?x ?y", "v ?a ?b , v ?b ?c"),
            ("?y ?x : r ?x ?y", "v ?b ?a , v ?c ?b"),
            ("?x : r ?x ?y", "v ?a , v ?b"),
            ("?y : r ?x ?y", "v ?b , v ?c"),
            ("?x ?y : r ?x ?z , r ?z ?y", "v ?a ?c"),
            ("?z : r ?x ?z , r ?z ?y", "v ?b"),
            ("?x ?y ?z ?u : r ?x ?y , r ?z ?u", "v ?a ?b ?a ?b , v ?a ?b ?b ?c , v ?b ?c ?a ?b , v ?b ?c ?b ?c"),
        ):
            self.tells(views_of(("v", text)), "?a ?c : r ?a ?b , r ?b ?c", expected)

    def test_of_several_views_by_their_order(self):
        views = views_of(("w", "?x : r ?x ?y"), ("a", "?x ?y : s ?x ?y"), ("v", "?y : r ?x ?y"), ("z", "?x : t ?x"),
                         ("b", "?y ?x : r ?x ?y"))
        question = "?c : r ?b ?c , r ?a ?b , s ?c k"
        self.tells(views, question, "w ?a , w ?b , a ?c k , v ?b , v ?c , b ?b ?a , b ?c ?b")
        self.tells(views[::-1], question, "b ?b ?a , b ?c ?b , v ?b , v ?c , a ?c k , w ?a , w ?b")
        for order in itertools.permutations(views):
            self.assertEqual(candidates(list(order), read(question)), candidates_plainly(list(order), read(question)))

    def test_each_once(self):
        self.tells(views_of(("v", "?x : r ?x ?y")), "?a : r ?a ?b , r ?a ?c , r ?a ?a , r ?a ?a", "v ?a")
        self.tells(views_of(("v", "?x : r ?x ?y , s ?z")), ": r ?a ?b , r ?a ?c , s ?a , s ?b", "v ?a")
        self.tells(views_of(("v", "?x : r ?x"), ("w", "?x : r ?x")), ": r ?a , r ?a", "v ?a , w ?a")

    def test_sorted_as_texts_are(self):
        self.tells(views_of(("v", "?x : r ?x")), ": r ?b , r a , r ?10 , r ?9 , r 1 , r ?a1 , r ?a , r ?1",
                   "v 1 , v ?1 , v ?10 , v ?9 , v ?a , v ?a1 , v ?b , v a")

    def test_values(self):
        self.tells(views_of(("v", "?x : r ?x a")), ": r ?x a , r a ?x , r a a , r b a , r ?y b", "v ?x , v a , v b")
        self.tells(views_of(("v", "?x ?y : r ?x ?y")), "b : r a ?x , r ?x b", "v ?x b , v a ?x")
        self.tells(views_of(("v", "?x : r b ?x")), ": r ?b ?c , r a ?c", "")
        self.tells(views_of(("v", "?x : r ?x ?y , s a")), ": r ?b ?c , s a", "v ?b")
        self.tells(views_of(("v", "?x : r ?x ?y , s a")), ": r ?b ?c , s ?a", "")

    def test_an_unknown_twice(self):
        self.tells(views_of(("v", "?x : r ?x ?x")), ": r ?a ?b , r ?b ?b , r a a , r a b", "v ?b , v a")
        self.tells(views_of(("v", "?x ?y : r ?x ?y , r ?y ?x")), ": r ?a ?b , r ?b ?a , r ?c ?c",
                   "v ?a ?b , v ?b ?a , v ?c ?c")

    def test_unknowns_called_alike_in_the_question_and_in_views(self):
        views = views_of(("v", "?y ?x : r ?x ?y , s ?y ?x"))
        self.tells(views, "?x : r ?x ?y , s ?y ?x", "v ?y ?x")
        self.tells(views, "?y : r ?y ?x , s ?x ?y", "v ?x ?y")
        self.tells(views, "?y : r ?x ?y , s ?x ?y", "")

    def test_a_view_called_as_a_table_is(self):
        self.tells(views_of(("r", "?x : s ?x"), ("s", "?x ?y : r ?y ?x")), ": r ?a ?b , s ?c", "r ?c , s ?b ?a")

    def test_a_heads_value_that_stands_in_no_atom(self):
        self.tells(views_of(("v", "?x : r ?x")), "c ?a : r ?a", "v ?a")

    def test_as_many_as_there_are(self):
        views = views_of(("v", "?x ?y ?z ?u : r ?x , r ?y , r ?z , r ?u"))
        question = ((), tuple([("r", ("?" + str(number),)) for number in range(8)]))
        told = candidates(views, question)
        self.assertEqual(len(told), 8 ** 4)
        unknowns = ["?" + sign for sign in "01234567"]
        self.assertEqual(told, [("v", terms) for terms in itertools.product(unknowns, repeat=4)])

    def test_against_every_map_tried(self):
        chance = random.Random(18)
        several = 0
        for unused in range(800):
            views = some_views(chance, "vrw", "r", ["?x", "?y", "?z", "a"], 3, 2)
            question = some_question(chance, "rs", ["?x", "?y", "?u", "a"], 3, 6, 2, 2)
            told = candidates(views, question)
            self.assertEqual(told, candidates_plainly(views, question))
            several += len(told) > 2
        self.assertGreater(several, 100)


class Promise19Whole(Rewriting):
    def test_one_atom(self):
        self.assertEqual(shown(self.whole(views_of(("v", "?x : r ?x ?y")), "?a : r ?a ?b")), "?a : v ?a")
        self.assertEqual(shown(self.whole(views_of(("v", "?x ?y : r ?x ?z , s ?z ?y")), "?y ?x : r ?x ?z , s ?z ?y")),
                         "?y ?x : v ?x ?y")
        self.assertEqual(shown(self.whole(views_of(("v", "?x ?y : r ?x ?y")), ": r ?a ?b")), ": v ?a ?b")
        self.assertEqual(shown(self.whole(views_of(("v", "?x ?y : r ?x ?y")), "k : r ?a k")), "k : v ?a k")
        self.assertEqual(shown(self.whole(views_of(("v", "?x : r ?x k")), "?a : r ?a k")), "?a : v ?a")

    def test_several_atoms(self):
        views = views_of(("v", "?x ?y : r ?x ?y"), ("w", "?x ?y : s ?x ?y"))
        self.assertEqual(shown(self.whole(views, "?x : r ?x ?y , s ?y ?z , r ?z ?z")),
                         "?x : v ?x ?y , v ?z ?z , w ?y ?z")
        self.assertEqual(shown(self.whole(views, "?x : s ?y ?z , r ?x ?y , r a ?z")), "?x : v ?x ?y , v a ?z , w ?y ?z")
        views = views_of(("v", "?x ?y : r ?x ?z , r ?z ?y"))
        self.assertEqual(shown(self.whole(views, "?a ?e : r ?a ?b , r ?b ?c , r ?c ?d , r ?d ?e")),
                         "?a ?e : v ?a ?c , v ?c ?e")

    def test_the_fewest_atoms(self):
        views = views_of(("v", "?x ?y : r ?x ?y"), ("w", "?x ?y : r ?x ?z , r ?z ?y"), ("u", "?x ?y : s ?x ?y"))
        self.assertEqual(shown(self.whole(views, "?x ?z : r ?x ?y , r ?y ?z")), "?x ?z : w ?x ?z")
        self.assertEqual(shown(self.whole(views, "?x ?z : r ?x ?y , r ?y ?z , s ?x ?z")), "?x ?z : w ?x ?z , u ?x ?z")
        self.whole(views, "?x ?y : r ?x ?y , r ?y ?z , r ?z ?y", 2)
        self.whole(views, "?x ?y ?z : r ?x ?y , r ?y ?z", 2)
        self.whole(views[::-1], "?x ?z : r ?x ?y , r ?y ?z", 1)

    def test_a_question_that_is_not_least(self):
        views = views_of(("v", "?x : r ?x ?y"))
        self.assertEqual(shown(self.whole(views, "?x : r ?x ?y , r ?x ?z")), "?x : v ?x")
        self.assertEqual(shown(self.whole(views, "?x : r ?x ?y , r ?u ?z")), "?x : v ?x")
        self.assertEqual(shown(self.whole(views, "?x : r ?x ?y , r ?x ?y , r ?x ?y")), "?x : v ?x")
        views = views_of(("v", "?x ?y : r ?x ?y , r ?x ?z"))
        self.assertEqual(shown(self.whole(views, "?x : r ?x ?y")), "?x : v ?x ?y")

    def test_views_whose_atoms_go_to_one_atom(self):
        views = views_of(("v", "?x ?y ?z : r ?x ?y , r ?y ?z"))
        self.loose(views, "?x ?y : r ?x ?y")
        self.assertEqual(shown(self.whole(views, "?x : r ?x ?x")), "?x : v ?x ?x ?x")

    def test_several_views_needed_together(self):
        views = views_of(("v", "?x ?y : r ?x ?y , s ?y ?z"), ("w", "?y ?z : s ?y ?z , t ?z"))
        self.assertEqual(shown(self.whole(views, "?x : r ?x ?y , s ?y ?z , t ?z")), "?x : v ?x ?y , w ?y ?z")
        self.assertEqual(shown(self.whole(views, "?z ?x : r ?x ?y , s ?y ?z , t ?z")), "?z ?x : v ?x ?y , w ?y ?z")

    def test_heads(self):
        views = views_of(("v", "?x ?y : r ?x ?y"))
        for head in ("", "?x ", "?y ?x ", "?x ?x ", "a ", "a ?y ?x b ", "?x ?y ?x ?y "):
            self.assertEqual(shown(self.whole(views, head + ": r ?x ?y")), head + ": v ?x ?y")

    def test_eight_atoms_and_eight_candidates(self):
        views = views_of(("v", "?x ?y : r ?x ?y"))
        text = " , ".join(["r ?" + str(step) + " ?" + str(step + 1) for step in range(8)])
        self.assertEqual(shown(self.whole(views, "?0 ?8 : " + text, 8)), "?0 ?8 : " + text.replace("r", "v"))

    def test_views_called_as_tables_are(self):
        views = views_of(("s", "?x ?y : r ?x ?y"), ("r", "?x : s ?x ?y"))
        self.assertEqual(shown(self.whole(views, "?x : r ?x ?y , s ?y ?z")), "?x : s ?x ?y , r ?y")

    def test_unknowns_and_values_called_like_new_ones_that_were_told(self):
        views = views_of(("v", "?x ?y : r ?x ?z , r ?z ?y , s ?u"), ("w", "?x : r ?x ?y"))
        question = read("?a ?e : r ?a ?b , r ?b ?c , r ?c ?d , r ?d ?e , s ?f")
        self.whole(views, question, 2)
        flat = rewritten(views, question)[2]
        new = [unknown for unknown in unknowns_of(flat) if unknown not in unknowns_of(question)]
        self.assertGreater(len(new), 2)
        for chosen in itertools.permutations(new, 3):
            names = dict(zip(("?a", "?c", "?e"), chosen))
            called = (tuple([names.get(term, term) for term in question[0]]),
                      tuple([(name, tuple([names.get(term, term) for term in terms])) for name, terms in question[1]]))
            self.whole(views, called, 2)

    def test_as_the_question_for_all_tables(self):
        chance = random.Random(4)
        views = views_of(("v", "?x ?y : r ?x ?z , s ?z ?y"), ("w", "?x : r ?x ?x"), ("u", "?x ?y : s ?x ?y"))
        for text in ("?x ?y : r ?x ?z , s ?z ?y", "?x : r ?x ?x , s ?x ?y", "?x : r ?x ?z , s ?z 1 , s 1 ?u",
                     ": r ?x ?z , s ?z ?y , r ?y ?u , s ?u ?x"):
            question = read(text)
            rewriting = self.whole(views, question)
            some = 0
            for unused in range(100):
                tables = some_tables(chance, "rs", "123", 8, 2)
                expected = answers(question, tables)
                some += expected != []
                self.assertEqual(answers(rewriting, seen(views, tables)), expected)
            self.assertGreater(some, 5)


class Promise19Loose(Rewriting):
    def test_no_candidates(self):
        self.loose([], "?x : r ?x")
        self.loose([], ": r a")
        self.loose(views_of(("v", "?x : s ?x")), "?x : r ?x")
        self.loose(views_of(("v", "?x : r ?x ?x")), ": r ?x ?y")
        self.loose(views_of(("v", "?x : r ?x k")), "k : r ?x ?y")
        self.loose(views_of(("v", "?x : r ?x , s ?x"), ("w", "?x : t ?x")), "?x : r ?x , s ?y")

    def test_an_unknown_of_the_head_in_no_candidate(self):
        self.loose(views_of(("v", "?x : r ?x ?y")), "?y : r ?x ?y")
        self.loose(views_of(("v", "?x : r ?x ?y")), "?x ?y : r ?x ?y")
        self.loose(views_of(("v", "?x : r ?x ?y")), "?x a ?x ?y : r ?x ?y")
        self.loose(views_of(("v", "?x : r ?x ?y"), ("w", "?x : s ?x")), "?z : r ?x ?y , s ?y , t ?z")
        self.loose(views_of(("v", "?x ?y ?z : r ?x ?y , s ?z")), "?u : r ?x ?y , s ?z , s ?y , t ?u")

    def test_values_of_the_head_are_not_looked_for(self):
        self.whole(views_of(("v", "?x : r ?x ?y")), "b : r ?x ?y", 1)
        self.short(views_of(("v", "?x : r ?x ?y")), "b : r ?x b")


class Promise19Short(Rewriting):
    def test_an_atom_that_no_candidate_brings(self):
        self.short(views_of(("v", "?x : r ?x ?y")), "?x : r ?x ?y , s ?x")
        self.short(views_of(("v", "?x ?y : r ?x ?y")), "?x : r ?x ?y , s ?y")
        self.short(views_of(("v", "?x ?y : r ?x ?y")), ": r ?x ?y , s a")

    def test_an_unknown_that_no_head_tells(self):
        self.short(views_of(("v", "?x : r ?x ?y"), ("w", "?y : r ?x ?y")), "?x ?y : r ?x ?y")
        self.short(views_of(("v", "?x : r ?x ?y"), ("w", "?y : s ?y")), "?x : r ?x ?y , s ?y")
        self.short(views_of(("v", "?x : r ?x ?y , s ?y"), ("w", "?x : r ?x ?y , t ?y")), "?x : r ?x ?y , s ?y , t ?y")

    def test_values(self):
        self.short(views_of(("v", "?x : r ?x ?y")), "?x : r ?x a")
        self.short(views_of(("v", "?x : r ?x ?y")), "?x : r ?x ?x")
        self.short(views_of(("v", "?x : r ?x ?y")), "a : r a b")
        tables, row = self.short(views_of(("v", "?x : r ?x ?y")), "a : r a b")
        self.assertEqual(row, ("a",))

    def test_a_head_of_none(self):
        tables, row = self.short(views_of(("v", "?x : r ?x ?y"), ("w", "?y : r ?x ?y")), ": r ?x ?y , r ?y ?x")
        self.assertEqual(row, ())

    def test_chains(self):
        views = views_of(("v", "?x ?y : r ?x ?z , r ?z ?y"))
        self.short(views, "?a ?d : r ?a ?b , r ?b ?c , r ?c ?d , s ?a ?d , r ?d ?a")
        views = views_of(("v", "?x ?y : r ?x ?z , r ?z ?y"), ("w", "?x ?y : r ?x ?a , r ?a ?b , r ?b ?y"))
        self.short(views, "?a ?b : r ?a ?b , r ?b ?c , r ?c ?a")
        self.whole(views, "?a ?f : r ?a ?b , r ?b ?c , r ?c ?d , r ?d ?e , r ?e ?f", 2)

    def test_values_called_like_new_ones_that_were_told(self):
        views = views_of(("v", "?x : r ?x ?y , s ?y"), ("w", "?y : r ?x ?y"))
        question = read("?x : r ?x ?y , s ?y , t ?y , r ?u ?y")
        tables, row = self.short(views, question)
        new = sorted(set([value for rows in tables.values() for held in rows for value in held]))
        self.assertGreater(len(new), 2)
        for first, second in itertools.permutations(new, 2):
            self.short(views, read(f"?x {first} : r ?x ?y , s ?y , t ?y , r {second} ?y"))
            called = views_of(("v", f"?x : r ?x ?y , s {first}"), ("w", f"?y : r {second} ?y"))
            self.short(called, read(f"?x : r ?x ?y , s {first} , r {second} ?y , t ?y {first}"))

    def test_ten_candidates_of_four_atoms(self):
        views = views_of(("v", "?x : r ?x , r ?a , r ?b , r ?c"), ("w", "?x : r ?x , s ?x ?y , r ?y , s ?y ?z"))
        question = ": " + " , ".join(["r ?" + str(number) for number in range(6)]) + " , s ?0 ?1 , s ?1 ?0"
        self.assertEqual(len(candidates(views, read(question))), 8)
        self.short(views, question, False)
        views = views_of(("v", "?x : r ?x , r ?a , r ?b , r ?c"), ("w", "?x : r ?x"))
        question = ": " + " , ".join(["r ?" + str(number) for number in range(5)]) + " , s ?0 , s ?1 , s ?2"
        self.assertEqual(len(candidates(views, read(question))), 10)
        self.short(views, question, False)


class Promise19TooMany(Rewriting):
    def question(self, count, more="", head=""):
        return head + ": " + " , ".join(["r ?" + str(number) for number in range(count)]) + more

    def test_ten_and_eleven(self):
        views = views_of(("v", "?x : r ?x"), ("w", "?x : r ?x"))
        self.assertEqual(len(candidates(views, read(self.question(5)))), 10)
        self.whole(views, self.question(5), 1)
        self.assertEqual(spare_ways(views, read(self.question(5))), [[number] for number in range(10)])
        views = views + views_of(("u", "?x : s ?x"))
        self.assertEqual(len(candidates(views, read(self.question(5, " , s ?0")))), 11)
        self.refused(views, self.question(5, " , s ?0"))
        self.assertEqual(len(candidates(views, read(self.question(6)))), 12)
        self.refused(views, self.question(6))
        self.whole(views, self.question(4, " , s ?0"), 2)

    def test_of_one_view(self):
        views = views_of(("v", "?x ?y : r ?x , r ?y"))
        self.whole(views, self.question(3), 1)
        self.refused(views, self.question(4))
        views = views_of(("v", "?x ?y : r ?x ?z , s ?y"))
        self.refused(views, ": r ?0 ?1 , r ?1 ?2 , r ?2 ?3 , r ?3 ?0 , s ?0 , s ?1 , s ?2")
        self.short(views, ": r ?0 ?1 , r ?1 ?2 , r ?2 ?0 , s ?0 , s a , t a")

    def test_ahead_of_all_else(self):
        views = views_of(("v", "?x ?y : r ?x , r ?y"))
        # An unknown of the head in no candidate, an atom that none brings, and a whole one: all the same.
        self.refused(views, self.question(4, " , s ?z", "?z "))
        self.refused(views, self.question(4, " , s ?z"))
        self.refused(views, self.question(4, "", "?0 ?1 "))
        self.loose(views, self.question(3, " , s ?z", "?z "))
        self.short(views, self.question(3, " , s ?z"))

    def test_very_many(self):
        views = views_of(("v", "?x ?y ?z ?u : r ?x , r ?y , r ?z , r ?u"))
        self.refused(views, self.question(8))


class Promise20(Rewriting):
    def tells(self, views, question, expected):
        question = self.asked(views, question)
        with self.subTest(views=views, question=question):
            told = spare_ways(views, question)
            self.assertEqual(told, expected)
            self.assertEqual(told, ways_plainly(views, question))
            self.assertIs(type(told), list)
            self.assertEqual([type(way) for way in told], [list] * len(told))
            self.assertEqual([type(number) for way in told for number in way],
                             [int] * len([number for way in told for number in way]))

    def test_one_way(self):
        self.tells(views_of(("v", "?x : r ?x ?y")), "?x : r ?x ?y", [[0]])
        self.tells(views_of(("v", "?x ?y : r ?x ?y")), "?x : r ?x ?y , r ?y ?z", [[0, 1]])
        self.tells(views_of(("w", "?x : r ?x ?y"), ("v", "?x ?y : r ?x ?y")), "?x ?y : r ?x ?y", [[1]])

    def test_several_ways(self):
        views = views_of(("v", "?x ?y : r ?x ?y"), ("w", "?x ?y : r ?x ?z , r ?z ?y"), ("u", "?x : r ?x ?y"))
        self.tells(views, "?x ?z : r ?x ?y , r ?y ?z", [[0, 1], [2]])
        self.tells(views, "?x : r ?x ?y", [[0], [1]])
        self.tells(views_of(("v", "?x : r ?x"), ("w", "?x : r ?x"), ("u", "?x : s ?x"), ("t", "?x : s ?x")),
                   "?x : r ?x , s ?x", [[0, 2], [0, 3], [1, 2], [1, 3]])

    def test_longer_ways_than_the_fewest(self):
        views = views_of(("v", "?x ?y : r ?x ?y"), ("w", "?x ?y ?z : r ?x ?y , r ?y ?z"))
        self.tells(views, "?x ?u : r ?x ?y , r ?y ?z , r ?z ?u", [[0, 1, 2], [0, 4], [2, 3], [3, 4]])

    def test_sorted_as_numbers_are(self):
        views = views_of(("v", "?x : r ?x"), ("w", "?x : r ?x"))
        question = ": " + " , ".join(["r ?" + str(number) for number in range(5)])
        self.tells(views, question, [[number] for number in range(10)])
        views = views_of(("a", "?x : s ?x"), ("v", "?x : r ?x"), ("b", "?x : s ?x"), ("w", "?x : s ?x"))
        self.tells(views, "?0 : r ?0 , r ?1 , r ?2 , r ?3 , s ?0 , s ?1", [[0, 2], [2, 6], [2, 8]])

    def test_none_is_whole(self):
        self.tells([], "?x : r ?x", [])
        self.tells(views_of(("v", "?x : r ?x ?y")), "?y : r ?x ?y", [])
        self.tells(views_of(("v", "?x : r ?x ?y"), ("w", "?y : r ?x ?y")), "?x ?y : r ?x ?y", [])

    def test_unknowns_of_the_head_called_like_new_ones_that_were_told(self):
        views = views_of(("v", "?x : r ?x ?y , s ?y ?z"), ("w", "?z : s ?y ?z"))
        new = sorted(set(unknowns_of(unfolded(views, read(": v a , w a , v a"))))) + ["?y"]
        self.assertEqual(len(new), 6)
        for first, second in itertools.permutations(new, 2):
            self.tells(views, f"{second} : r {first} {second} , s {second} ?a", [])
            self.tells(views, f"{second} : r {first} {second} , s {second} {first}", [])
            self.tells(views, f"{second} {first} : r {first} {second} , s {second} a", [])
            self.tells(views, f"{first} : r {first} {second} , s {second} a", [])
            self.tells(views, f"{first} : r {first} {second} , s {second} ?a", [[0]])
            self.loose(views, f"{second} : r {first} {second} , s {second} ?a")
            self.short(views, f"{first} : r {first} {second} , s {second} a")
            self.whole(views, f"{first} : r {first} {second} , s {second} ?a", 1)

    def test_against_all_sets_tried(self):
        chance = random.Random(20)
        several = 0
        for unused in range(400):
            views = some_views(chance, "vrw", "r", ["?x", "?y", "?z"], 2, 2)
            question = some_question(chance, "r", ["?x", "?n0", "?u", "a"], 1, 4, 2, 1)
            if len(candidates(views, question)) > 7:
                continue
            told = spare_ways(views, question)
            self.assertEqual(told, ways_plainly(views, question))
            several += len(told) > 1
        self.assertGreater(several, 40)


class Promise4(Rewriting):
    def test_each_verdict_by_chance(self):
        chance = random.Random(19)
        seen_kinds = {"whole": 0, "loose": 0, "short": 0}
        for unused in range(500):
            views = some_views(chance, "vrw", "r", ["?x", "?y", "?n1", "n1"], 2, 2)
            question = some_question(chance, "r", ["?n1", "?n0", "?u", "n1"], 1, 4, 2, 2)
            found = candidates_plainly(views, question)
            if len(found) > 10:
                self.refused(views, question)
                continue
            ways = ways_plainly(views, question)
            free = [term for term in question[0] if term[0] == "?" and term not in unknowns_plainly(((), tuple(found)))]
            if ways:
                self.whole(views, question, min([len(way) for way in ways]))
            elif not found or free:
                self.loose(views, question)
            else:
                self.short(views, question)
            seen_kinds["whole" if ways else "loose" if not found or free else "short"] += 1
        self.assertGreater(min(seen_kinds.values()), 60)

    def test_none_of_fewer_atoms_whatever_atoms_it_has(self):
        chance = random.Random(194)
        tried = 0
        for unused in range(300):
            views = some_views(chance, "vw", "rs", ["?x", "?y", "?z"], 2, 2)
            question = some_question(chance, "rs", ["?x", "?y", "?u"], 1, 3, 2, 1)
            told = rewritten(views, question)
            most = len(told[1][1]) - 1 if told[0] == "whole" else 2
            if most > 2:
                continue
            for count in range(1, most + 1):
                for atoms in itertools.combinations(atoms_over(views, question), count):
                    tried += 1
                    self.assertFalse(is_whole_plainly(views, question, atoms), (views, question, atoms))
        self.assertGreater(tried, 10000)

    def test_the_question_lies_within_that_of_all_candidates(self):
        chance = random.Random(193)
        for unused in range(200):
            views = some_views(chance, "vrw", "rs", ["?x", "?y", "?z", "a"], 3, 2)
            question = some_question(chance, "rs", ["?x", "?y", "?u", "a"], 1, 4, 2, 0)
            found = candidates(views, question)
            if found:
                flat = unfolded(views, ((), tuple(found)))
                self.assertTrue(has_map_plainly(question, flat))


class Promise2(Rewriting):
    views = views_of(("v", "?x ?y : r ?x ?y"), ("w", "?x ?y : r ?x ?z , r ?z ?y"), ("u", "?x : s ?x ?y"))
    texts = ("?x ?z : r ?x ?y , r ?y ?z", "?x : t ?x", "?x : r ?x ?y , s ?x ?x", "?x : r ?x ?y , s ?y ?u",
             ": s ?a ?b , s ?b ?c , r a b", "?y : s ?x ?y")
    asks = (candidates, rewritten, spare_ways)

    def test_what_is_handed_in_stays_as_it_was(self):
        views = copy.deepcopy(self.views)
        for text, ask in itertools.product(self.texts, self.asks):
            question = read(text)
            ask(views, question)
            self.assertEqual((views, question), (self.views, read(text)))
        crowded = views_of(("v", "?x ?y : r ?x , r ?y"))
        for ask in (rewritten, spare_ways):
            with self.assertRaises(TooMany):
                ask(crowded, read(": r ?a , r ?b , r ?c , r ?d"))
            self.assertEqual(crowded, views_of(("v", "?x ?y : r ?x , r ?y")))

    def test_what_is_told_can_be_changed_and_is_told_again(self):
        for text, ask in itertools.product(self.texts, self.asks):
            told = ask(self.views, read(text))
            kept = ask(self.views, read(text))
            before = copy.deepcopy(kept)
            spoil([held for held in holders(told) if held])
            for held in holders(told):
                held.clear()
            self.assertEqual(kept, before)
            again = ask(self.views, read(text))
            self.assertNotIn("spoilt", repr(again))
            self.assertEqual(again[0] if ask == rewritten else again, before[0] if ask == rewritten else before)

    def test_no_two_places_hold_one_list_or_dict(self):
        for text, ask in itertools.product(self.texts, self.asks):
            held = [id(holder) for holder in holders(ask(self.views, read(text)))]
            self.assertEqual(len(set(held)), len(held))

    def test_nothing_hangs_on_what_was_asked_before(self):
        def told(text):
            question = read(text)
            return (candidates(self.views, question), rewritten(self.views, question)[0],
                    spare_ways(self.views, question))
        first = [told(text) for text in self.texts]
        again = [told(text) for text in reversed(self.texts)]
        self.assertEqual(again[::-1], first)

    def test_what_is_done_to_the_views_afterwards_changes_nothing(self):
        views = copy.deepcopy(self.views)
        told = rewritten(views, read(self.texts[0]))
        before = copy.deepcopy(told)
        views.reverse()
        views.pop()
        self.assertEqual(told, before)


if __name__ == "__main__":
    unittest.main()
