import copy
import itertools
import random
import unittest

from askviews.answers import answers, counted
from askviews.errors import AskError, NoView
from askviews.questions import is_question
from askviews.questiontexts import read
from askviews.rewriting import rewritten
from askviews.sure import fits, shown_sure, sure
from askviews.tables import is_tables
from askviews.views import is_views, seen
from tests.helping import (
    Truths, answers_plainly, are_told_tables, holders, is_answer_plainly, some_question, some_tables, some_views, spoil,
    values_of,
)


def views_of(*texts):
    return [(name, read(text)) for name, text in texts]


VIEWS = views_of(("v", "?x ?y : r ?x ?z , s ?z ?y"), ("w", "?x : r ?x ?x"), ("u", "?y ?x : s ?x ?y"))


def fits_plainly(views, held, tables):
    """As 21 says it: each held row is among all that its view sees."""
    return all([row in answers_plainly(dict(views)[name], tables) for name in held for row in held[name]])


def fitted_tables(views, held):
    """As 22 says it: made of all held rows, with values in the place of other unknowns that no test uses elsewhere."""
    tables = {}
    for name in held:
        head, atoms = dict(views)[name]
        for number, row in enumerate(sorted(set(held[name]))):
            given = dict(zip(head, row))
            for table, terms in atoms:
                made = [given.setdefault(term, "z" + name + str(number) + term[1:]) if term[0] == "?" else term
                        for term in terms]
                tables.setdefault(table, []).append(tuple(made))
    return tables


def old_values(views, held, question):
    found = values_of(question) + [value for rows in held.values() for row in rows for value in row]
    return sorted(set(found + [value for name, view in views for value in values_of(view)]))


def sure_plainly(views, held, question):
    """All rows of values that are there are tried."""
    tables = fitted_tables(views, held)
    rows = itertools.product(old_values(views, held, question), repeat=len(question[0]))
    return [row for row in rows if is_answer_plainly(question, tables, row)]


def some_held(chance, views, values, most):
    held = {}
    for name, view in views:
        rows = [tuple([chance.choice(values) for unused in view[0]]) for unused in range(chance.randrange(most + 1))]
        if rows or chance.randrange(2):
            held[name] = rows
    return held


def values_in(tables):
    return sorted(set([value for rows in tables.values() for row in rows for value in row]))


class Refusing(unittest.TestCase):
    def refused(self, views, held, place):
        self.assertTrue(is_views(views) and is_tables(held))
        question = read("?x : r ?x ?y")
        for told in (lambda: fits(views, held, {}), lambda: fits(views, held, {"r": [("1", "1")]}),
                     lambda: sure(views, held, question), lambda: sure(views, held, read(": t a")),
                     lambda: shown_sure(views, held, question, ("1",)), lambda: shown_sure(views, held, question, ())):
            with self.subTest(views=views, held=held):
                with self.assertRaises(NoView) as caught:
                    told()
                self.assertEqual(caught.exception.place, place)
                self.assertIs(type(caught.exception.place), int)
                self.assertIsInstance(caught.exception, AskError)

    def taken(self, views, held):
        question = read("?x : r ?x ?y")
        self.assertIs(type(fits(views, held, {})), bool)
        self.assertIs(type(sure(views, held, question)), list)
        self.assertIs(type(shown_sure(views, held, question, ("1",))), tuple)


class Promise21Held(Refusing):
    def test_right_ones(self):
        for held in ({}, {"v": [("1", "2")]}, {"w": [("1",)], "v": [("1", "2"), ("1", "2")]}, {"u": [("a", "a")]},
                     {"u": [("2", "1"), ("1", "2")], "v": [("1", "2")], "w": [("3",), ("2",)]}):
            self.taken(VIEWS, held)
        self.taken([], {})

    def test_names_of_no_view(self):
        self.refused([], {"v": [("1",)]}, 0)
        self.refused(VIEWS, {"r": [("1", "2")]}, 0)
        self.refused(VIEWS, {"x": [("1",)]}, 0)
        self.refused(VIEWS, {"v": [("1", "2")], "x": [("1",)]}, 1)
        self.refused(VIEWS, {"v": [("1", "2")], "a": [("1",)]}, 0)
        self.refused(VIEWS, {"vv": [("1", "2")]}, 0)

    def test_rows_of_another_length(self):
        for name, length in (("v", 2), ("w", 1), ("u", 2)):
            for count in range(1, 5):
                if count == length:
                    self.taken(VIEWS, {name: [("1",) * count]})
                else:
                    self.refused(VIEWS, {name: [("1",) * count]}, 0)
        for place in range(4):
            rows = [("1", "2"), ("2", "2"), ("3", "1"), ("1", "1")]
            for wrong in (("1",), ("1", "2", "3"), ("1", "2", "3", "4")):
                rows[place] = wrong
                self.refused(VIEWS, {"v": rows}, 0)
                self.refused(VIEWS, {"w": [("1",)], "v": rows, "u": [("1", "1")]}, 1)

    def test_names_without_rows(self):
        self.refused(VIEWS, {"x": []}, 0)
        self.refused(VIEWS, {"r": []}, 0)
        self.refused([], {"v": []}, 0)
        self.refused(VIEWS, {"v": [("1", "2")], "x": []}, 1)
        self.refused(VIEWS, {"v": [], "x": [("1",)]}, 1)
        self.refused(VIEWS, {"x": [], "w": [("1", "2")], "v": [], "u": []}, 2)
        self.taken(VIEWS, {"v": []})
        self.taken(VIEWS, {"v": [], "w": [], "u": [("1", "2")]})

    def test_the_first_of_the_names_sorted(self):
        for names in itertools.permutations(("v", "w", "u", "x", "a")):
            rows = {"v": [("1", "2")], "w": [("1",)], "u": [("1", "2")], "x": [("1",)], "a": [("1",)]}
            self.refused(VIEWS, {name: rows[name] for name in names}, 0)
            self.refused(VIEWS, {name: rows[name] for name in names if name != "a"}, 3)
            rows["v"] = [("1", "2"), ("1",)]
            self.refused(VIEWS, {name: rows[name] for name in names if name != "a"}, 1)
            rows["u"] = [("1",)]
            self.refused(VIEWS, {name: rows[name] for name in names if name != "a"}, 0)
            self.refused(VIEWS, {name: rows[name] for name in names if name not in ("a", "u")}, 0)

    def test_the_order_of_the_views_changes_nothing(self):
        for views in itertools.permutations(VIEWS):
            self.refused(list(views), {"w": [("1",)], "v": [("1",)], "u": [("1", "2")]}, 1)


class Promise21Fits(Truths):
    def asked(self, expected, views, held, tables):
        self.assertIs(fits_plainly(views, held, tables), expected)
        self.tells(fits(views, held, tables), expected, (views, held, tables))

    def test_each_held_row_is_seen(self):
        tables = {"r": [("1", "2"), ("3", "3"), ("4", "2")], "s": [("2", "5"), ("3", "1")]}
        for held in ({}, {"v": []}, {"v": [("1", "5")]}, {"v": [("4", "5"), ("1", "5"), ("1", "5")]}, {"w": [("3",)]},
                     {"v": [("3", "1")], "u": [("5", "2"), ("1", "3")], "w": [("3",)]}):
            self.asked(True, VIEWS, held, tables)
        for held in ({"v": [("1", "1")]}, {"v": [("5", "1")]}, {"v": [("4", "5"), ("1", "5"), ("2", "5")]},
                     {"w": [("1",)]}, {"w": [("3",), ("9",)]}, {"v": [("3", "1")], "u": [("2", "5")], "w": [("3",)]},
                     {"v": [("3", "1")], "u": [("1", "3")], "w": [("1",)]}):
            self.asked(False, VIEWS, held, tables)

    def test_without_tables(self):
        self.asked(True, VIEWS, {}, {})
        self.asked(True, VIEWS, {"v": [], "w": []}, {})
        self.asked(True, [], {}, {"r": [("1",)]})
        self.asked(False, VIEWS, {"w": [("1",)]}, {})
        self.asked(False, VIEWS, {"w": [("1",)]}, {"r": [], "s": [("1", "1")]})

    def test_values_and_unknowns_twice(self):
        views = views_of(("v", "?x : r ?x k ?x , s ?y ?y"))
        self.asked(True, views, {"v": [("1",)]}, {"r": [("1", "k", "1")], "s": [("2", "2")]})
        self.asked(False, views, {"v": [("1",)]}, {"r": [("1", "k", "2")], "s": [("2", "2")]})
        self.asked(False, views, {"v": [("1",)]}, {"r": [("1", "1", "1")], "s": [("2", "2")]})
        self.asked(False, views, {"v": [("1",)]}, {"r": [("1", "k", "1")], "s": [("2", "1")]})
        self.asked(False, views, {"v": [("1",)]}, {"r": [("1", "k", "1", "1"), ("1", "k")], "s": [("2", "2")]})

    def test_one_view_called_as_a_table_is(self):
        views = views_of(("r", "?x : s ?x"), ("s", "?x : r ?x"))
        self.asked(True, views, {"r": [("1",)], "s": [("2",)]}, {"s": [("1",)], "r": [("2",)]})
        self.asked(False, views, {"r": [("1",)], "s": [("2",)]}, {"r": [("1",)], "s": [("2",)]})

    def test_a_view_that_sees_very_many_rows(self):
        views = views_of(("v", "?x ?y ?z ?u : r ?x , r ?y , r ?z , r ?u"))
        held = {"v": [("a" + str(number), "b" + str(number), "c" + str(number), "d") for number in range(60)]}
        told = shown_sure(views, held, read(": s ?x"), ())
        self.assertEqual((told[0], len(told[1]["r"])), ("open", 181))
        self.tells(fits(views, held, told[1]), True, told)
        self.tells(fits(views, held, {"r": told[1]["r"][1:]}), False, told)

    def test_against_all_that_the_views_see(self):
        chance = random.Random(21)
        found = {True: 0, False: 0}
        for unused in range(500):
            views = some_views(chance, "vrw", "rs", ["?x", "?y", "?z", "1"], 3, 2)
            tables = some_tables(chance, "rs", "123", 8, 2)
            viewed = {name: answers_plainly(view, tables) for name, view in views}
            held = {name: chance.sample(rows, chance.randrange(len(rows) + 1)) for name, rows in viewed.items()}
            if views and chance.randrange(2):
                name, view = chance.choice(views)
                held[name].append(tuple([chance.choice("123") for unused in view[0]]))
            expected = fits_plainly(views, held, tables)
            found[expected] += 1
            self.tells(fits(views, held, tables), expected, (views, held, tables))
        self.assertGreater(min(found.values()), 60)


class Sure(unittest.TestCase):
    def tells(self, views, held, question, expected, plainly=True):
        question = read(question) if isinstance(question, str) else question
        self.assertTrue(is_views(views) and is_tables(held) and is_question(question))
        with self.subTest(views=views, held=held, question=question):
            told = sure(views, held, question)
            self.assertIs(type(told), list)
            self.assertEqual([type(row) for row in told], [tuple] * len(told))
            self.assertEqual(told, expected)
            if plainly:
                self.assertEqual(told, sure_plainly(views, held, question))
                self.shows_all(views, held, question, expected)

    def shows_all(self, views, held, question, expected):
        """Each row of values that are there, and of another one, is shown to be what it is."""
        values = old_values(views, held, question)[:4] + ["other"]
        for row in list(itertools.product(values, repeat=len(question[0])))[:150] + expected[:20]:
            self.shows(views, held, question, row, row in expected)

    def shows(self, views, held, question, row, expected):
        question = read(question) if isinstance(question, str) else question
        with self.subTest(views=views, held=held, question=question, row=row):
            told = shown_sure(views, held, question, row)
            self.assertIs(type(told), tuple)
            self.assertEqual((told[0], len(told)), ("sure" if expected else "open", 2))
            if expected:
                self.check_used(views, held, question, row, told[1])
            else:
                self.check_open(views, held, question, row, told[1])

    def check_used(self, views, held, question, row, used):
        self.assertIs(type(used), list)
        self.assertEqual([(type(pair), len(pair), type(pair[1])) for pair in used], [(tuple, 2, tuple)] * len(used))
        self.assertEqual(used, sorted(set(used)))
        alone = {}
        for name, held_row in used:
            self.assertIn(held_row, held[name])
            alone.setdefault(name, []).append(held_row)
        self.assertIn(row, sure(views, alone, question))
        self.assertIn(row, sure_plainly(views, alone, question))
        self.assertEqual(shown_sure(views, alone, question, row)[0], "sure")

    def check_open(self, views, held, question, row, tables):
        self.assertTrue(is_tables(tables) and are_told_tables(tables), tables)
        self.assertIs(fits(views, held, tables), True)
        self.assertNotIn(row, answers(question, tables))
        self.assertNotIn(row, [answer for answer, count in counted(question, tables)])
        viewed = seen(views, tables)
        self.assertTrue(all([held_row in viewed[name] for name in held for held_row in held[name]]))
        self.assertFalse(is_answer_plainly(question, tables, row))


class Promise22(Sure):
    def test_ordinary_rows(self):
        held = {"v": [("1", "2"), ("3", "2")], "w": [("3",)], "u": [("2", "1"), ("1", "5")]}
        for text, expected in (
            ("?x : r ?x ?y", [("1",), ("3",)]),
            ("?x ?y : r ?x ?y", [("3", "3")]),
            ("?x ?y : s ?x ?y", [("1", "2"), ("5", "1")]),
            ("?y : r ?x ?z , s ?z ?y", [("2",)]),
            ("?x ?y : r ?x ?z , s ?z ?y", [("1", "2"), ("3", "2")]),
            ("?x ?y : s ?x ?z , s ?z ?y", [("5", "2")]),
            ("?x : r ?x ?y , r ?y ?x", [("3",)]),
            ("?x : r ?y ?x , s ?x ?z", []),
            ("?x : t ?x", []),
            ("?x : r ?x", []),
            ("2 : r ?x ?y , s ?y 2", [("2",)]),
            ("9 ?x : r ?x ?y", [("9", "1"), ("9", "3")]),
            ("?x ?x ?y : s ?x ?y", [("1", "1", "2"), ("5", "5", "1")]),
        ):
            self.tells(VIEWS, held, text, expected)

    def test_a_head_of_none(self):
        held = {"v": [("1", "2")]}
        self.tells(VIEWS, held, ": r ?x ?y", [()])
        self.tells(VIEWS, held, ": r 1 ?y , s ?y 2", [()])
        self.tells(VIEWS, held, ": r 2 ?y", [])
        self.tells(VIEWS, {}, ": r ?x ?y", [])

    def test_nothing_held(self):
        for held in ({}, {"v": []}, {"v": [], "u": [], "w": []}):
            for text in ("?x : r ?x ?y", ": s ?x ?y", "a : r a a"):
                self.tells(VIEWS, held, text, [])
        self.tells([], {}, "?x : r ?x", [])
        self.assertEqual(shown_sure(VIEWS, {}, read("?x : r ?x ?y"), ("1",)), ("open", {}))

    def test_new_values_are_of_no_sure_row(self):
        views = views_of(("v", "?x : r ?x ?y , r ?y ?z"))
        self.tells(views, {"v": [("1",), ("2",)]}, "?x : r ?x ?y", [("1",), ("2",)])
        self.tells(views, {"v": [("1",), ("2",)]}, "?y : r ?x ?y", [])
        self.tells(views, {"v": [("1",), ("2",)]}, "?x ?y : r ?x ?y", [])
        self.tells(views, {"v": [("1",), ("2",)]}, "?x ?y : r ?x ?z , r ?y ?z", [("1", "1"), ("2", "2")])

    def test_new_values_are_unlike_for_each_row(self):
        views = views_of(("v", "?x : r ?x ?y"), ("w", "?x : s ?x ?y , r ?x ?y"))
        self.tells(views, {"v": [("1",), ("2",)]}, ": r 1 ?y , r 2 ?y", [])
        self.tells(views, {"w": [("1",)], "v": [("1",)]}, "?x : s ?x ?y , r ?x ?y", [("1",)])
        self.tells(views, {"w": [("1",), ("2",)]}, "?x ?y : s ?x ?z , r ?y ?z", [("1", "1"), ("2", "2")])
        views = views_of(("v", "?x : r ?x ?y , r ?x ?z"), ("w", "?x : r ?x ?y , s ?y"))
        self.tells(views, {"v": [("1",)]}, "?x : r ?x ?y , s ?y", [])
        self.tells(views, {"v": [("1",)], "w": [("1",)]}, "?x : r ?x ?y , s ?y", [("1",)])

    def test_values_of_views_and_questions(self):
        views = views_of(("v", "?x : r ?x k , s k ?y"))
        self.tells(views, {"v": [("1",)]}, "?y : r ?x ?y", [("k",)])
        self.tells(views, {"v": [("1",)]}, "?x ?y : r ?x ?y", [("1", "k")])
        self.tells(views, {"v": [("k",)]}, "?x : r ?x ?x , s ?x ?z", [("k",)])
        self.tells(views, {"v": [("1",)]}, "?x : r ?x ?y , s ?y 1", [])

    def test_rows_held_twice_and_in_any_order(self):
        held = {"u": [("2", "1"), ("1", "1"), ("2", "1"), ("10", "1"), ("9", "1")]}
        self.tells(VIEWS, held, "?y : s ?x ?y", [("1",), ("10",), ("2",), ("9",)])
        for rows in itertools.permutations([("2", "1"), ("1", "1"), ("1", "2")]):
            self.tells(VIEWS, {"u": list(rows)}, "?x ?y : s ?x ?z , s ?z ?y",
                       [("1", "1"), ("1", "2"), ("2", "1"), ("2", "2")])

    def test_rows_of_several_views_together(self):
        held = {"v": [("1", "2")], "u": [("3", "2")], "w": [("1",)]}
        self.tells(VIEWS, held, "?x ?y : r ?x ?z , s ?z ?u , s ?u ?y", [("1", "3")])
        self.tells(VIEWS, held, "?x ?y : r ?x ?x , r ?x ?z , s ?z ?u , s ?u ?y", [("1", "3")])
        told = shown_sure(VIEWS, held, read("?x ?y : r ?x ?z , s ?z ?u , s ?u ?y"), ("1", "3"))
        self.assertEqual(told, ("sure", [("u", ("3", "2")), ("v", ("1", "2"))]))

    def test_rows_for_which_alone_it_is_sure(self):
        held = {"v": [(str(first), str(second)) for first in range(4) for second in range(4)],
                "u": [(str(number), str(number + 1)) for number in range(8)]}
        for row in itertools.product("0123", repeat=2):
            told = shown_sure(VIEWS, held, read("?x ?y : r ?x ?z , s ?z ?y"), row)
            self.assertEqual(told, ("sure", [("v", row)]))
            self.shows(VIEWS, held, "?x ?y : r ?x ?z , s ?z ?y", row, True)
        told = shown_sure(VIEWS, held, read("?x : s 8 ?a , s ?a ?b , s ?b ?x"), ("5",))
        self.assertEqual(told, ("sure", [("u", ("5", "6")), ("u", ("6", "7")), ("u", ("7", "8"))]))
        self.assertEqual(shown_sure(VIEWS, held, read(": s 1 0 , s 2 1 , s 1 0"), ()),
                         ("sure", [("u", ("0", "1")), ("u", ("1", "2"))]))

    def test_a_row_that_two_views_bring(self):
        views = views_of(("v", "?x ?y : r ?x ?y"), ("w", "?y ?x : r ?x ?y"))
        held = {"v": [("1", "2")], "w": [("2", "1")]}
        self.tells(views, held, "?x ?y : r ?x ?y", [("1", "2")])
        told = shown_sure(views, held, read("?x ?y : r ?x ?y"), ("1", "2"))
        self.assertIn(told, (("sure", [("v", ("1", "2"))]), ("sure", [("w", ("2", "1"))]),
                             ("sure", [("v", ("1", "2")), ("w", ("2", "1"))])))

    def test_rows_of_another_length(self):
        held = {"v": [("1", "2")], "w": [("3",)]}
        for text in ("?x : r ?x ?y", "?x ?y : r ?x ?y", ": r ?x ?y", "3 : r ?x ?y", "?x ?x ?x ?x : r ?x ?x"):
            question = read(text)
            for length in range(7):
                for value in ("1", "3", "9"):
                    expected = (value,) * length in sure(VIEWS, held, question)
                    self.assertTrue(length == len(question[0]) or not expected)
                    self.shows(VIEWS, held, question, (value,) * length, expected)

    def test_rows_with_values_that_are_nowhere(self):
        held = {"v": [("1", "2")]}
        for row in (("7",), ("abcdefgh",), ("v",), ("x",), ("r",), ("12345678",)):
            self.shows(VIEWS, held, "?x : r ?x ?y", row, False)

    def test_values_called_like_new_ones_that_were_told(self):
        views = views_of(("v", "?x : r ?x ?y , s ?y ?z"), ("w", "?x : r ?x ?y"))
        held = {"v": [("1",), ("2",)], "w": [("1",)]}
        question = read("?y : r ?x ?y")
        new = [value for value in values_in(shown_sure(views, held, question, ("1",))[1]) if value not in "12"]
        self.assertGreater(len(new), 2)
        for value in new:
            self.shows(views, held, question, (value,), False)
            self.shows(views, held, f"{value} : r ?x ?x", (value,), False)
            self.shows(views, held, f"?x : r ?x {value}", ("1",), False)
            self.shows(views, held, f"?x : r ?x ?y , s ?y {value}", ("1",), False)
            self.tells(views, held, f"?x : r ?x {value}", [])
            self.tells(views, held, f"{value} : r ?x ?y", [(value,)])
            self.tells(views, held, f"{value} ?y : r {value} ?y", [])
            self.tells(views, {"v": [(value,)]}, "?x : r ?x ?y", [(value,)])
            self.tells(views, {"v": [(value,)]}, "?x ?y : r ?x ?y", [])
            self.tells(views, {"v": [(value,)]}, ": r ?x ?x", [])
            called = views_of(("v", f"?x : r ?x {value} , s ?y ?z"), ("w", f"?x : r ?x ?y"))
            self.tells(called, held, "?y : r ?x ?y", [(value,)])
            self.tells(called, held, ": s ?x ?x", [])
            self.tells(called, held, f": s {value} ?x", [])

    def test_many_rows(self):
        rows = [("a" + str(number), "a" + str((number + 1) % 60)) for number in range(60)]
        views = views_of(("v", "?x ?y : r ?x ?z , r ?z ?y"))
        text = "?a ?e : r ?a ?b , r ?b ?c , r ?c ?d , r ?d ?e , r ?e ?f"
        expected = sorted([("a" + str(number), "a" + str((number + 2) % 60)) for number in range(60)])
        self.tells(views, {"v": rows}, text, expected, False)
        self.shows(views, {"v": rows}, text, ("a0", "a2"), True)
        self.shows(views, {"v": rows}, text, ("a0", "a3"), False)

    def test_very_many_rows_with_new_values(self):
        views = views_of(("v", "?x : r ?x ?y"))
        held = {"v": [("a" + str(number),) for number in range(60)]}
        self.tells(views, held, "?a ?b ?c ?d : r ?1 ?a , r ?2 ?b , r ?3 ?c , r ?4 ?d", [], False)
        self.tells(views, held, "?1 : r ?1 ?a , r ?2 ?b , r ?3 ?c , r ?4 ?d , r ?5 ?e , r ?6 ?f , r ?7 ?g",
                   sorted(held["v"]), False)

    def test_very_many_rows_that_were_told_are_held(self):
        views = views_of(("v", "?x ?y ?z : r ?x ?a , r ?y ?b , r ?z ?c"), ("w", "?x ?y : s ?x ?a , r ?a ?b , r ?y ?c"))
        tables = {"r": [("a" + str(number), "b" + str(number)) for number in range(12)],
                  "s": [("c" + str(number), "a" + str(number)) for number in range(12)]}
        held = seen(views, tables)
        self.assertEqual((len(held["v"]), len(held["w"])), (1728, 144))
        text = "?x ?y : r ?x ?a , r ?y ?b , s ?c ?d , r ?d ?e , r ?f ?g"
        expected = sorted(itertools.product(["a" + str(number) for number in range(12)], repeat=2))
        self.tells(views, held, text, expected, False)
        for row in (("a0", "a11"), ("a3", "a3")):
            told = shown_sure(views, held, read(text), row)
            self.check_used(views, held, read(text), row, told[1])
        told = shown_sure(views, held, read(text), ("a0", "b0"))
        self.assertEqual(told[0], "open")
        self.assertLess(len(told[1]["r"]) + len(told[1]["s"]), 200)
        self.assertIs(fits(views, held, told[1]), True)
        self.assertNotIn(("a0", "b0"), answers(read(text), told[1]))
        self.tells(views, held, "?x : s ?x ?y , s ?x ?z , r ?y ?u", sorted([(row[0],) for row in tables["s"]]), False)
        self.tells(views, held, "?x : s ?y ?x", [], False)

    def test_against_rows_of_all_values_tried(self):
        chance = random.Random(22)
        found = {True: 0, False: 0}
        for unused in range(600):
            views = some_views(chance, "vrw", "rs", ["?x", "?y", "?z", "1"], 2, 2)
            held = some_held(chance, views, "123", 3)
            question = some_question(chance, "rs", ["?x", "?y", "?u", "1", "n0"], 1, 3, 2, 2)
            expected = sure_plainly(views, held, question)
            found[expected != []] += 1
            self.tells(views, held, question, expected)
        self.assertGreater(min(found.values()), 60)

    def test_against_all_tables_tried(self):
        """With two values and one new one: all tables of rows of two that fit are tried."""
        rows = list(itertools.product("12z", repeat=2))
        every = [{"r": list(chosen)} for count in range(10) for chosen in itertools.combinations(rows, count)]
        for view, held in (("?x : r ?x ?y", [("1",)]), ("?y : r ?x ?y", [("2",)]),
                           ("?x ?y : r ?x ?z , r ?z ?y", [("1", "2")]),
                           ("?x : r ?x ?y , r ?y ?x", [("1",)]), ("?x : r ?x 2 , r ?y ?x", [("1",)]),
                           ("?x ?y : r ?x ?y", [("1", "1"), ("1", "2")]), ("?x : r ?y ?y , r ?y ?x", [("1",)])):
            views = views_of(("v", view))
            fitting = [tables for tables in every if fits_plainly(views, {"v": held}, tables)]
            self.assertGreater(len(fitting), 3)
            for tables in fitting[::7]:
                self.assertIs(fits(views, {"v": held}, tables), True)
            for text in ("?x : r ?x ?y", "?y : r ?x ?y", "?x ?y : r ?x ?y", ": r ?x ?x", "?x : r ?x ?y , r ?y ?z",
                         "?x : r ?x ?x , r ?x 2", "2 : r 1 2"):
                question = read(text)
                answered = [answers(question, tables) for tables in fitting]
                expected = [row for row in answered[0] if all([row in told for told in answered])]
                self.assertEqual(sure(views, {"v": held}, question), expected)


class Promise23(Sure):
    def test_sure_rows_are_answers_of_all_tables_that_fit(self):
        chance = random.Random(23)
        some = 0
        for unused in range(600):
            views = some_views(chance, "vrw", "rs", ["?x", "?y", "?z", "1"], 2, 2)
            tables = some_tables(chance, "rs", "123", 9, 2)
            question = some_question(chance, "rs", ["?x", "?y", "?u", "1"], 1, 3, 2, 2)
            held = {}
            for name, rows in seen(views, tables).items():
                held[name] = chance.sample(rows, chance.randrange(len(rows) + 1))
            told = sure(views, held, question)
            some += told != []
            self.assertIs(fits(views, held, tables), True)
            self.assertEqual([row for row in told if row not in answers_plainly(question, tables)], [])
        self.assertGreater(some, 50)

    def test_just_the_answers_where_nothing_lacks_and_there_is_a_whole_rewriting(self):
        chance = random.Random(231)
        some = 0
        for unused in range(1500):
            views = some_views(chance, "vw", "r", ["?x", "?y", "?z"], 2, 2)
            question = some_question(chance, "r", ["?x", "?y", "?u"], 1, 2, 2, 2)
            if rewritten(views, question)[0] != "whole":
                continue
            tables = some_tables(chance, "r", "123", 8, 2)
            expected = answers_plainly(question, tables)
            self.assertEqual(sure(views, seen(views, tables), question), expected)
            some += expected != []
        self.assertGreater(some, 100)


class Promise2(Sure):
    views = views_of(("v", "?x ?y : r ?x ?z , s ?z ?y"), ("w", "?x : r ?x ?x"), ("u", "?y ?x : s ?x ?y"))
    held = {"v": [("3", "2"), ("1", "2"), ("3", "2")], "u": [], "w": [("3",)]}
    tables = {"s": [("3", "2"), ("1", "2")], "r": [("1", "3"), ("3", "3"), ("1", "3")], "t": []}

    def all_told(self, views, held):
        question = read("?x : r ?x ?y , s ?y ?z")
        return [fits(views, held, self.tables), sure(views, held, question),
                shown_sure(views, held, question, ("3",)), shown_sure(views, held, question, ("2",))]

    def test_what_is_handed_in_stays_as_it_was(self):
        views, held, tables = copy.deepcopy((self.views, self.held, self.tables))
        question = read("?x : r ?x ?y , s ?y ?z")
        fits(views, held, tables)
        sure(views, held, question)
        shown_sure(views, held, question, ("1",))
        shown_sure(views, held, question, ("2",))
        self.assertEqual((views, held, tables), (self.views, self.held, self.tables))
        self.assertEqual((list(held), list(tables)), (["v", "u", "w"], ["s", "r", "t"]))
        self.assertEqual(question, read("?x : r ?x ?y , s ?y ?z"))

    def test_what_is_refused_changes_nothing(self):
        views, held = copy.deepcopy((self.views, self.held))
        held["x"] = []
        for ask in (lambda: fits(views, held, self.tables), lambda: sure(views, held, read(": r ?x ?y")),
                    lambda: shown_sure(views, held, read(": r ?x ?y"), ())):
            with self.assertRaises(NoView):
                ask()
        self.assertEqual((views, held), (self.views, dict(self.held, x=[])))

    def test_what_is_told_can_be_changed_and_is_told_again(self):
        told = self.all_told(self.views, self.held)
        kept = self.all_told(self.views, self.held)
        before = copy.deepcopy(kept)
        self.assertEqual([kept[0], kept[1], kept[2][0], kept[3][0]], [True, [("1",), ("3",)], "sure", "open"])
        for part in told[1:]:
            spoil(part)
        self.assertEqual(kept, before)
        again = self.all_told(self.views, self.held)
        self.assertEqual((again[:2], again[2][0], again[3][0]), (before[:2], "sure", "open"))
        self.assertNotIn("spoilt", repr(again))

    def test_no_two_places_hold_one_list_or_dict(self):
        views, held = copy.deepcopy((self.views, self.held))
        told = self.all_told(views, held)
        places = [id(holder) for holder in holders(told) + holders(held) + holders(views)]
        self.assertGreater(len(places), 9)
        self.assertEqual(len(set(places)), len(places))

    def test_what_is_done_afterwards_changes_nothing(self):
        views, held = copy.deepcopy((self.views, self.held))
        told = self.all_told(views, held)
        before = copy.deepcopy(told)
        held["v"].clear()
        held["w"].append(("7",))
        views.reverse()
        self.assertEqual(told, before)
        self.assertEqual(sure(views, held, read("?x : r ?x ?y")), [("3",), ("7",)])

    def test_nothing_hangs_on_what_was_asked_before(self):
        texts = ("?x : r ?x ?y", ": t a", "?x ?y : s ?x ?y", "?y : r ?x ?z , s ?z ?y")
        first = [sure(self.views, self.held, read(text)) for text in texts]
        again = [sure(self.views, self.held, read(text)) for text in reversed(texts)]
        self.assertEqual(again[::-1], first)


if __name__ == "__main__":
    unittest.main()
