import copy
import itertools
import random
import unittest

from askviews.questiontexts import read
from askviews.tables import is_tables
from askviews.views import is_views, seen
from tests.helping import (
    Truths, answers_plainly, are_told_tables, deep_things, holders, no_texts, some_atoms, some_tables, spoil,
    unknowns_plainly,
)

QUESTION = read("?x ?y : r ?x ?z , s ?z ?y")
VIEW = ("v", QUESTION)
WRONG_NAMES = ["", "abcdefghi", "A", "?x", "?", "a b", " ", "a-b", ":", ","] + no_texts()


class Promise16IsViews(Truths):
    def asked(self, expected, thing):
        self.tells(is_views(thing), expected, thing)

    def around(self, expected, view):
        """The same by itself, and beside right views."""
        ahead, behind = ("v1", QUESTION), ("v2", QUESTION)
        for thing in ([view], [ahead, view], [view, behind], [ahead, view, behind]):
            self.asked(expected, thing)

    def test_views(self):
        self.asked(True, [])
        self.asked(True, [VIEW])
        self.asked(True, [VIEW, ("w", QUESTION)])
        for text in ("?x : r ?x", "?x : r a ?x b c", "?y ?x : r ?x ?y", "?a ?b ?c ?d : r ?a ?b , s ?c ?d",
                     "?x : r ?x , r ?x", "?12345678 : 12345678 ?12345678", "?x : v ?x", "?v : v ?v v"):
            self.around(True, ("v", read(text)))
        for name in ("a", "0", "12345678", "abcdefgh", "x1", "r", "s"):
            self.around(True, (name, QUESTION))

    def test_a_view_may_be_called_as_a_table_is(self):
        self.asked(True, [("r", read("?x : r ?x ?y")), ("s", read("?x : r ?x ?y , s ?y"))])

    def test_names_are_unlike(self):
        self.asked(False, [VIEW, VIEW])
        self.asked(False, [VIEW, ("v", read("?x : t ?x"))])
        self.asked(False, [VIEW, ("w", QUESTION), ("v", read("?x ?y : t ?x ?y"))])
        self.asked(False, [("w", QUESTION), VIEW, VIEW, ("u", QUESTION)])
        self.asked(True, [VIEW, ("v1", QUESTION), ("1v", QUESTION), ("vv", QUESTION)])
        for first, second in itertools.combinations(range(8), 2):
            views = [("v" + str(number), QUESTION) for number in range(8)]
            views[second] = (views[first][0], read("?x : r ?x"))
            self.asked(False, views)

    def test_more_than_six_views(self):
        for count in (6, 7, 8, 40, 300):
            views = [("v" + str(number), QUESTION) for number in range(count)]
            self.asked(True, views)
            self.asked(False, views + [("v0", QUESTION)])
            self.asked(False, views + [("v", (("a",), QUESTION[1]))])

    def test_more_than_four_atoms(self):
        for count in range(0, 12):
            atoms = tuple([("r", ("?x", "?" + str(number))) for number in range(count)])
            self.around(1 <= count <= 8, ("v", (("?x",), atoms)))

    def test_every_length_of_a_head(self):
        terms = ("?a", "?b", "?c", "?d", "?e", "?f")
        atoms = (("r", terms[:4]), ("s", terms[3:]))
        for length in range(7):
            self.around(1 <= length <= 4, ("v", (terms[:length], atoms)))

    def test_a_value_in_the_head(self):
        for place, length in [(place, length) for length in range(1, 5) for place in range(length)]:
            head = ["?a", "?b", "?c", "?d"][:length]
            self.around(True, ("v", (tuple(head), (("r", ("?a", "?b", "?c", "?d")),))))
            head[place] = "a"
            self.around(False, ("v", (tuple(head), (("r", ("?a", "?b", "?c", "?d")), ("s", ("a",))))))

    def test_an_unknown_twice_in_the_head(self):
        for first, second in itertools.combinations(range(4), 2):
            head = ["?a", "?b", "?c", "?d"]
            head[second] = head[first]
            self.around(False, ("v", (tuple(head), (("r", ("?a", "?b", "?c", "?d")),))))
        self.around(False, ("v", read("?x ?x : r ?x ?y")))
        self.around(True, ("v", read("?x ?xx : r ?x ?xx")))

    def test_an_unknown_of_the_head_in_no_atom(self):
        self.around(False, ("v", (("?z",), (("r", ("?x", "?y")),))))
        self.around(False, ("v", (("?x", "?z"), (("r", ("?x", "?y")),))))

    def test_wrong_names(self):
        for name in WRONG_NAMES:
            self.around(False, (name, QUESTION))

    def test_wrong_questions(self):
        for wrong in no_texts() + ["?x : r ?x", "", QUESTION[1], QUESTION[0], [QUESTION], (QUESTION,), list(QUESTION),
                                   (["?x"], QUESTION[1]), (("?x",), list(QUESTION[1])), (("?x",), ()),
                                   (("?x",), (["r", ("?x",)],)), (("?x",), (("r", ["?x"]),)), ("?x", QUESTION[1]),
                                   (("?x",), (("r", ("?x",)), ("R", ("?x",)))), QUESTION + (True,),
                                   (("?X",), (("r", ("?X",)),)), ((None,), QUESTION[1]), ((("?x",),), QUESTION[1])]:
            self.around(False, ("v", wrong))

    def test_wrong_kinds_in_the_place_of_a_view(self):
        for wrong in no_texts() + ["v", "", list(VIEW), ("v",), (QUESTION,), VIEW + (None,), (QUESTION, "v"), QUESTION,
                                   {"v": QUESTION}, [VIEW], (VIEW,), ("v", "v")]:
            self.around(False, wrong)

    def test_wrong_kinds_in_the_place_of_the_views(self):
        for thing in ((), (VIEW,), VIEW, (VIEW, ("w", QUESTION)), {"v": QUESTION}, {}, {VIEW: True}, "", "v", None,
                      True, False, 0, 1, QUESTION, [[VIEW]], ([VIEW],), [[]], [()]):
            self.asked(False, thing)
        for thing in no_texts():
            self.asked(thing == [], thing)

    def test_deep_things(self):
        for thing in deep_things():
            self.asked(False, thing)
            self.asked(False, [thing])
            self.asked(False, [VIEW, thing])
            self.asked(False, [(thing, QUESTION)])
            self.asked(False, [("v", thing)])
            self.asked(False, [("v", (thing, QUESTION[1]))])
            self.asked(False, [("v", (("?x",), thing))])
            self.asked(False, [("v", (("?x",), (("r", ("?x", thing)),)))])


class Promise16Seen(unittest.TestCase):
    def sees(self, views, tables, expected):
        views = [(name, read(text)) for name, text in views]
        self.assertTrue(is_views(views))
        with self.subTest(views=views, tables=tables):
            told = seen(views, tables)
            self.assertEqual(told, expected)
            self.assertTrue(is_tables(told) and are_told_tables(told))

    def test_ordinary_views(self):
        tables = {"r": [("2", "3"), ("1", "3"), ("1", "2")], "s": [("3", "a"), ("2", "a"), ("2", "b"), ("2", "a")]}
        self.sees([], tables, {})
        self.sees([("v", "?x : r ?x ?y")], tables, {"v": [("1",), ("2",)]})
        self.sees([("v", "?x : r ?x ?y"), ("w", "?y ?x : r ?x ?y")], tables,
                  {"v": [("1",), ("2",)], "w": [("2", "1"), ("3", "1"), ("3", "2")]})
        self.sees([("v", "?x ?z : r ?x ?y , s ?y ?z")], tables, {"v": [("1", "a"), ("1", "b"), ("2", "a")]})
        self.sees([("v", "?z ?y ?x : r ?x ?y , s ?y ?z , s 3 ?z")], tables,
                  {"v": [("a", "2", "1"), ("a", "3", "1"), ("a", "3", "2")]})
        self.sees([("v", "?x : s ?x b")], tables, {"v": [("2",)]})

    def test_a_view_without_answers_is_not_there(self):
        tables = {"r": [("1", "2")], "t": []}
        self.sees([("v", "?x : r ?x ?x")], tables, {})
        self.sees([("v", "?x : r ?x ?x"), ("w", "?x : r ?x ?y")], tables, {"w": [("1",)]})
        self.sees([("v", "?x : t ?x"), ("u", "?x : u ?x"), ("w", "?x : r 2 ?x")], tables, {})
        self.sees([("v", "?x : r ?x ?y")], {}, {})

    def test_a_view_called_as_a_table_is(self):
        tables = {"r": [("1", "2"), ("2", "3")], "s": [("3",)]}
        self.sees([("r", "?x : r ?x ?y , s ?y")], tables, {"r": [("2",)]})
        self.sees([("r", "?y ?x : r ?x ?y"), ("s", "?x : r ?x ?y")], tables,
                  {"r": [("2", "1"), ("3", "2")], "s": [("1",), ("2",)]})
        self.sees([("s", "?x : r ?x ?x"), ("r", "?x : s ?x")], tables, {"r": [("3",)]})

    def test_views_see_tables_and_not_one_another(self):
        self.sees([("v", "?x : r ?x"), ("w", "?x : v ?x")], {"r": [("1",)]}, {"v": [("1",)]})
        self.sees([("w", "?x : v ?x"), ("v", "?x : r ?x")], {"r": [("1",)], "v": [("2",)]},
                  {"v": [("1",)], "w": [("2",)]})

    def test_two_views_of_one_question(self):
        self.sees([("v", "?x : r ?x"), ("w", "?x : r ?x"), ("u", "?x : r ?x")], {"r": [("2",), ("1",)]},
                  {"v": [("1",), ("2",)], "w": [("1",), ("2",)], "u": [("1",), ("2",)]})

    def test_rows_of_unlike_lengths(self):
        tables = {"r": [("1",), ("1", "2"), ("2", "1", "2"), ("3", "1", "2", "4")]}
        self.sees([("a", "?x : r ?x"), ("b", "?x ?y : r ?x ?y"), ("c", "?z ?x : r ?x ?y ?z"),
                   ("d", "?u ?z ?y ?x : r ?x ?y ?z ?u")], tables,
                  {"a": [("1",)], "b": [("1", "2")], "c": [("2", "2")], "d": [("4", "2", "1", "3")]})

    def test_sorted_each_once(self):
        tables = {"r": [("b", "1"), ("a1", "1"), ("a", "2"), ("a", "1"), ("10", "0"), ("9", "0")]}
        self.sees([("v", "?x : r ?x ?y")], tables, {"v": [("10",), ("9",), ("a",), ("a1",), ("b",)]})

    def test_many_rows_views_and_atoms(self):
        rows = [("v" + str(number), "v" + str(number + 1)) for number in range(60)]
        views = [("w" + str(count), " , ".join(["r ?" + str(step) + " ?" + str(step + 1) for step in range(count)]))
                 for count in range(1, 9)]
        expected = {}
        for count in range(1, 9):
            found = [("v" + str(number), "v" + str(number + count)) for number in range(61 - count)]
            expected["w" + str(count)] = sorted(found)
        texts = [(name, "?0 ?" + name[1:] + " : " + text) for name, text in views]
        self.sees(texts, {"r": rows}, expected)

    def test_against_every_map_tried(self):
        chance = random.Random(16)
        without = 0
        for unused in range(400):
            views = []
            for name in ("v", "r", "w"):
                atoms = some_atoms(chance, "rs", ["?x", "?y", "?z", "?x", "?y", "1"], 1, 3, 3)
                unknowns = unknowns_plainly(((), atoms))
                if unknowns:
                    head = chance.sample(unknowns, chance.randrange(1, len(unknowns) + 1))
                    views.append((name, (tuple(head), atoms)))
            self.assertTrue(is_views(views))
            tables = some_tables(chance, "rst", "123", 12, 3)
            expected = {}
            for name, question in views:
                rows = answers_plainly(question, tables)
                without += not rows
                if rows:
                    expected[name] = rows
            told = seen(views, tables)
            self.assertEqual(told, expected)
            self.assertTrue(are_told_tables(told))
        self.assertGreater(without, 50)


class Promise2(unittest.TestCase):
    views = [("v", read("?x : r ?x ?y")), ("w", read("?x : r ?x ?y")), ("r", read("?y : r ?x ?y , s ?x"))]
    tables = {"s": [("2",), ("1",), ("2",)], "r": [("2", "1"), ("1", "2"), ("2", "1")], "t": []}

    def test_what_is_handed_in_stays_as_it_was(self):
        views, tables = copy.deepcopy(self.views), copy.deepcopy(self.tables)
        seen(views, tables)
        self.assertEqual((views, tables), (self.views, self.tables))
        self.assertEqual(list(tables), ["s", "r", "t"])
        for thing in no_texts() + [[VIEW], [VIEW, VIEW], [list(VIEW)], [("v", list(QUESTION))]]:
            before = copy.deepcopy(thing)
            is_views(thing)
            self.assertEqual(thing, before)

    def test_what_is_told_can_be_changed_and_is_told_again(self):
        views, tables = copy.deepcopy(self.views), copy.deepcopy(self.tables)
        told = seen(views, tables)
        kept = seen(views, tables)
        expected = {"v": [("1",), ("2",)], "w": [("1",), ("2",)], "r": [("1",), ("2",)]}
        spoil(told)
        self.assertEqual(kept, expected)
        self.assertEqual(seen(views, tables), expected)
        self.assertEqual((views, tables), (self.views, self.tables))

    def test_what_is_done_to_the_tables_afterwards_changes_nothing(self):
        views, tables = copy.deepcopy(self.views), copy.deepcopy(self.tables)
        told = seen(views, tables)
        tables["r"].append(("3", "3"))
        tables["s"].clear()
        views.clear()
        self.assertEqual(told, {"v": [("1",), ("2",)], "w": [("1",), ("2",)], "r": [("1",), ("2",)]})
        self.assertEqual(seen(self.views, tables), {"v": [("1",), ("2",), ("3",)], "w": [("1",), ("2",), ("3",)]})

    def test_no_two_places_hold_one_list_or_dict(self):
        rows = [("1",), ("2",)]
        tables = {"r": rows, "s": rows}
        views = [("v", read("?x : r ?x")), ("w", read("?x : r ?x")), ("u", read("?x : s ?x"))]
        held = [id(holder) for holder in holders(seen(views, tables)) + holders(tables)[:2]]
        self.assertEqual(len(held), 6)
        self.assertEqual(len(set(held)), 6)

    def test_nothing_hangs_on_what_was_asked_before(self):
        first = [seen(self.views[:count], self.tables) for count in range(4)]
        again = [seen(self.views[:count], self.tables) for count in (3, 2, 1, 0)]
        self.assertEqual(again[::-1], first)


if __name__ == "__main__":
    unittest.main()
