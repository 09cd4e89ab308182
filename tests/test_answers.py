import copy
import itertools
import random
import unittest

from askviews.answers import answers, counted
from askviews.questions import unknowns_of
from askviews.questiontexts import read
from tests.helping import counted_plainly

TABLES = {
    "r": [("1", "2"), ("2", "3"), ("1", "3"), ("3", "3")],
    "s": [("3", "a"), ("2", "a"), ("2", "b")],
    "t": [("1",), ("3",)],
}


class Asked(unittest.TestCase):
    def tells(self, question, tables, expected):
        if isinstance(question, str):
            question = read(question)
        with self.subTest(question=question, tables=tables):
            told = counted(question, tables)
            self.assertEqual(told, expected)
            self.assertEqual(answers(question, tables), [row for row, unused in expected])
            self.assertIs(type(told), list)
            self.assertIs(type(answers(question, tables)), list)
            for pair in told:
                self.assertEqual([type(pair), type(pair[0]), type(pair[1])], [tuple, tuple, int])


class Promise10(Asked):
    def test_ordinary_questions(self):
        for text, expected in (
            ("?x : t ?x", [(("1",), 1), (("3",), 1)]),
            ("?x ?y : r ?x ?y", [(("1", "2"), 1), (("1", "3"), 1), (("2", "3"), 1), (("3", "3"), 1)]),
            ("?y : r ?x ?y", [(("2",), 1), (("3",), 3)]),
            ("?x a : r ?x ?y , s ?y a", [(("1", "a"), 2), (("2", "a"), 1), (("3", "a"), 1)]),
            ("?x : r ?x ?y , s ?y ?z", [(("1",), 3), (("2",), 1), (("3",), 1)]),
            ("?x ?z : r ?x ?y , r ?y ?z", [(("1", "3"), 2), (("2", "3"), 1), (("3", "3"), 1)]),
            ("?x : r ?x ?x", [(("3",), 1)]),
            ("?x : t ?x , r ?x ?y , t ?y", [(("1",), 1), (("3",), 1)]),
            ("?x ?y : t ?x , t ?y", [(("1", "1"), 1), (("1", "3"), 1), (("3", "1"), 1), (("3", "3"), 1)]),
            ("?y ?x ?y : r ?x ?y , t ?x , s ?y b", [(("2", "1", "2"), 1)]),
            ("?x : r ?x 2 , s ?x ?y", []),
        ):
            self.tells(text, TABLES, expected)

    def test_values_stand_for_themselves(self):
        self.tells("?x : r 1 ?x", TABLES, [(("2",), 1), (("3",), 1)])
        self.tells("?x : r ?x 3 , t ?x", TABLES, [(("1",), 1), (("3",), 1)])
        self.tells("b : t ?x", TABLES, [(("b",), 2)])
        self.tells("new ?x new : t ?x", TABLES, [(("new", "1", "new"), 1), (("new", "3", "new"), 1)])
        self.tells("a : t 1", TABLES, [(("a",), 1)])
        self.tells("a : t 2", TABLES, [])
        self.tells("?x : r x ?x", {"r": [("x", "y"), ("y", "x")]}, [(("y",), 1)])

    def test_a_head_of_none(self):
        self.tells(": t ?x", TABLES, [((), 2)])
        self.tells(": t 1", TABLES, [((), 1)])
        self.tells(": t 2", TABLES, [])
        self.tells(": r ?x ?y , s ?y ?z", TABLES, [((), 5)])
        self.tells(": t ?x", {}, [])
        self.assertEqual(answers(read(": t ?x"), TABLES), [()])
        self.assertEqual(answers(read(": t 2"), TABLES), [])

    def test_heads_and_atoms_of_four_terms(self):
        tables = {"r": [("1", "2", "3", "4"), ("2", "2", "3", "4"), ("1", "2", "3")]}
        self.tells("?d ?c ?b ?a : r ?a ?b ?c ?d", tables, [(("4", "3", "2", "1"), 1), (("4", "3", "2", "2"), 1)])
        self.tells("?d ?a ?d x : r ?a ?a ?c ?d", tables, [(("4", "2", "4", "x"), 1)])

    def test_eight_atoms_of_four_terms(self):
        atoms = ["r ?a ?b ?c ?d", "r ?b ?c ?d ?e", "r ?c ?d ?e ?f", "r ?d ?e ?f ?g",
                 "r ?e ?f ?g ?h", "r ?f ?g ?h ?i", "r ?g ?h ?i ?j", "r ?h ?i ?j ?k"]
        rows = [("0", "0", "0", "0"), ("0", "0", "0", "1"), ("0", "0", "1", "0"), ("0", "1", "0", "0"),
                ("1", "0", "0", "0")]
        expected = counted_plainly(read("?a ?d ?h ?k : " + " , ".join(atoms)), {"r": rows})
        self.assertGreater(len(expected), 5)
        self.assertGreater(max([count for unused, count in expected]), 1)
        self.tells("?a ?d ?h ?k : " + " , ".join(atoms), {"r": rows}, expected)

    def test_a_name_that_is_not_in_the_tables(self):
        for text in ("?x : u ?x", ": u ?x", "?x : t ?x , u ?x", "?x : u ?y , t ?x", "a : u a", ": t 1 , u a"):
            self.tells(text, TABLES, [])
            self.tells(text, {}, [])

    def test_a_name_without_rows(self):
        tables = dict(TABLES, u=[])
        for text in ("?x : u ?x", ": u ?x", "?x : t ?x , u ?x", "?x : u ?y , t ?x", "a : u a"):
            self.tells(text, tables, [])
        self.tells("?x : t ?x", tables, [(("1",), 1), (("3",), 1)])

    def test_a_row_twice_is_as_once(self):
        tables = {"r": [("1", "2"), ("1", "2"), ("1", "3"), ("1", "2")], "s": [("2",), ("2",), ("3",)]}
        self.tells("?x : r ?x ?y", tables, [(("1",), 2)])
        self.tells("?x : r ?x ?y , s ?y", tables, [(("1",), 2)])
        self.tells(": r 1 2", tables, [((), 1)])
        self.tells("?y : s ?y , r ?x ?y", tables, [(("2",), 1), (("3",), 1)])

    def test_rows_of_unlike_lengths(self):
        tables = {"r": [("1",), ("1", "2"), ("1", "2", "3"), ("2", "2"), ("1", "2", "3", "4"), ("2",)]}
        self.tells("?x : r ?x", tables, [(("1",), 1), (("2",), 1)])
        self.tells("?x ?y : r ?x ?y", tables, [(("1", "2"), 1), (("2", "2"), 1)])
        self.tells("?x : r ?x ?y ?z", tables, [(("1",), 1)])
        self.tells("?x : r ?x ?y ?z ?u", tables, [(("1",), 1)])
        self.tells("?x : r ?x , r ?x ?x", tables, [(("2",), 1)])
        self.tells("?x : r ?y , r ?x ?y , r ?x ?y ?z", tables, [(("1",), 1)])
        self.tells("?x : r ?x ?x ?x", tables, [])

    def test_an_atom_twice(self):
        self.tells("?x : r ?x ?y , r ?x ?y", TABLES, [(("1",), 2), (("2",), 1), (("3",), 1)])
        self.tells("?x : " + " , ".join(["r ?x ?y"] * 8), TABLES, [(("1",), 2), (("2",), 1), (("3",), 1)])
        self.tells("?x : r ?x ?y , r ?x ?z", TABLES, [(("1",), 4), (("2",), 1), (("3",), 1)])
        self.tells(": t 1 , t 1", TABLES, [((), 1)])

    def test_unlike_unknowns_may_be_given_one_value(self):
        self.tells("?x ?y : r ?x ?y , t ?x , t ?y", TABLES, [(("1", "3"), 1), (("3", "3"), 1)])

    def test_an_unknown_that_stands_twice_in_an_atom(self):
        tables = {"r": [("1", "2", "1"), ("1", "1", "2"), ("1", "1", "1"), ("2", "1", "1")]}
        self.tells("?x ?y : r ?x ?y ?x", tables, [(("1", "1"), 1), (("1", "2"), 1)])
        self.tells("?x ?y : r ?y ?x ?x", tables, [(("1", "1"), 1), (("1", "2"), 1)])
        self.tells("?x : r ?x ?x ?x", tables, [(("1",), 1)])
        self.tells("?x : r ?x 1 ?x", tables, [(("1",), 1)])
        self.tells("?y : r ?x ?x ?y , r ?y ?x ?x", tables, [(("1",), 1), (("2",), 1)])

    def test_sorted_as_python_sorts_texts(self):
        tables = {"r": [("b",), ("10",), ("9",), ("a1",), ("a",), ("0",)]}
        expected = [(("0",), 1), (("10",), 1), (("9",), 1), (("a",), 1), (("a1",), 1), (("b",), 1)]
        self.tells("?x : r ?x", tables, expected)

    def test_the_order_of_the_rows_changes_nothing(self):
        question = read("?x ?z : r ?x ?y , s ?y ?z")
        expected = counted_plainly(question, TABLES)
        for rows in itertools.permutations(TABLES["r"]):
            for other in itertools.permutations(TABLES["s"]):
                self.assertEqual(counted(question, {"s": list(other), "r": list(rows)}), expected)

    def test_names_of_tables_values_and_unknowns_are_told_apart(self):
        tables = {"r": [("r",), ("x",)], "x": [("r", "x"), ("x", "x")]}
        self.tells("?r r : r ?r , x ?r ?x , x x ?x", tables, [(("r", "r"), 1), (("x", "r"), 1)])


class Promise10MoreAtoms(Asked):
    def test_more_than_eight_atoms(self):
        for count in (9, 32, 300):
            steps = [("r", ("?" + str(number), "?" + str(number + 1))) for number in range(count)]
            ring = [("0", "1"), ("1", "2"), ("2", "0")]
            question = (("?0", "?" + str(count)), tuple(steps))
            expected = sorted([((str(first), str((first + count) % 3)), 1) for first in range(3)])
            self.tells(question, {"r": ring}, expected)
            self.tells(((), tuple(steps)), {"r": ring}, [((), 3)])
            self.tells(question, {"r": ring[:2]}, [])

    def test_more_than_eight_atoms_alike(self):
        atoms = (("r", ("?x", "?y")), ("t", ("?y",))) * 20
        self.tells((("?x",), atoms), TABLES, [(("1",), 1), (("2",), 1), (("3",), 1)])
        self.tells((("?x",), atoms + (("u", ("a",)),)), TABLES, [])

    def test_as_many_maps_as_may_be(self):
        tables = {"r": [("v" + str(number),) for number in range(27)]}
        atoms = (("r", ("?a",)), ("r", ("?b",)), ("r", ("?c",))) * 14
        self.tells(((), atoms), tables, [((), 27 ** 3)])
        self.assertEqual(len(answers((("?c", "?b", "?a"), atoms), tables)), 27 ** 3)
        self.assertEqual(counted((("?b",), atoms), tables)[0], (("v0",), 27 ** 2))

    def test_only_the_first_atoms_are_bounded(self):
        tables = {"r": [("v" + str(number),) for number in range(59)], "s": [("v0",)]}
        free = tuple([("r", ("?" + str(number),)) for number in range(8)])
        self.tells(((), (("u", ("?x",)),) + free), tables, [])
        fixed = tuple([("s", ("?" + str(number),)) for number in range(8)])
        self.tells((("?0", "?7"), fixed + free), tables, [(("v0", "v0"), 1)])


class Promise9ToldTables(Asked):
    """Tables that were told may be handed in again, and a question may have more maps there than are bounded."""

    def test_many_maps_to_rows_that_stand_apart(self):
        rows = [("a" + str(number), "b" + str(number)) for number in range(8)]
        atoms = tuple([("r", ("?a" + str(number), "?b" + str(number))) for number in range(8)])
        self.tells(((), atoms), {"r": rows}, [((), 8 ** 8)])
        self.tells((("?b3",), atoms), {"r": rows}, [(("b" + str(number),), 8 ** 7) for number in range(8)])
        told = counted((("?b3", "?a3", "?a6"), atoms), {"r": rows})
        self.assertEqual(told, [(("b" + str(first), "a" + str(first), "a" + str(second)), 8 ** 6)
                                for first in range(8) for second in range(8)])
        self.tells(((), atoms + (("r", ("?a0", "?b1")),)), {"r": rows}, [((), 8 ** 7)])
        self.tells(((), atoms + (("r", ("?a0", "?a0")),)), {"r": rows}, [])

    def test_many_maps_to_a_star(self):
        rows = [("c", "b" + str(number)) for number in range(8)]
        atoms = tuple([("r", ("?c", "?" + str(number))) for number in range(8)])
        self.tells(((), atoms), {"r": rows}, [((), 8 ** 8)])
        self.tells((("?c",), atoms), {"r": rows}, [(("c",), 8 ** 8)])
        self.tells((("?0",), atoms * 2), {"r": rows[:4]}, [(("b" + str(number),), 4 ** 7) for number in range(4)])

    def test_many_maps_of_atoms_that_are_bound_only_later_on(self):
        rows = [("v" + str(number),) for number in range(60)]
        free = tuple([("r", ("?" + str(number),)) for number in range(9)])
        behind = tuple([("s", ("?" + str(number), "?a")) for number in range(9)])
        tables = {"r": rows, "s": [row + ("a",) for row in rows[:2]]}
        self.tells(((), free + behind), tables, [((), 2 ** 9)])
        self.tells((("?3",), free + behind), tables, [(row, 2 ** 8) for row in rows[:2]])
        self.tells((("?a",), free + behind + (("r", ("?a",)),)), tables, [])
        self.tells(((), free), tables, [((), 60 ** 9)])

    def test_many_maps_of_atoms_that_each_make_more(self):
        rows = [("v" + str(number), "w" + str(number)) for number in range(60)]
        free = tuple([("p", ("?" + str(number), "?a" + str(number))) for number in range(8)])
        behind = tuple([("q", ("?a" + str(number), "?b" + str(number))) for number in range(8)])
        tables = {"p": rows, "q": [(row[1], value) for row in rows for value in "xy"]}
        self.tells(((), free + behind), tables, [((), 120 ** 8)])
        self.tells((("?b0",), free + behind), tables, [((value,), 60 * 120 ** 7) for value in "xy"])
        expected = [(row, 60 ** 4 * 120 ** 4) for row in itertools.product("xy", repeat=4)]
        self.tells((("?b7", "?b0", "?b3", "?b4"), free + behind), tables, expected)

    def test_an_unknown_that_comes_again_behind_others(self):
        rows = [("1", "2"), ("2", "1"), ("1", "1")]
        text = "?y : r ?x ?y , r ?z ?u , r ?v ?w , r ?y ?x , r ?w ?v , r ?u ?u"
        self.tells(text, {"r": rows}, counted_plainly(read(text), {"r": rows}))


class Promise10Plainly(Asked):
    def test_against_every_map_tried(self):
        chance = random.Random(10)
        several = 0
        for unused in range(1500):
            question = self.some_question(chance)
            tables = self.some_tables(chance)
            expected = counted_plainly(question, tables)
            several += len(expected) > 1
            self.tells(question, tables, expected)
        self.assertGreater(several, 200)

    def some_question(self, chance):
        terms = ["?x", "?y", "?z", "?u"] * 2 + ["1", "2"]
        atoms = []
        for unused in range(chance.randrange(1, 5)):
            length = chance.randrange(1, 4)
            atoms.append((chance.choice(["r", "s"]), tuple([chance.choice(terms) for unused in range(length)])))
        bound = unknowns_of(((), tuple(atoms))) * 2 + ["1", "9"]
        return (tuple([chance.choice(bound) for unused in range(chance.randrange(5))]), tuple(atoms))

    def some_tables(self, chance):
        tables = {}
        for name in ("r", "s", "t"):
            if chance.randrange(8):
                tables[name] = []
                for unused in range(chance.randrange(24)):
                    length = chance.randrange(1, 4)
                    tables[name].append(tuple([chance.choice("123") for unused in range(length)]))
        return tables


class Promise2(unittest.TestCase):
    def test_what_is_handed_in_stays_as_it_was(self):
        tables = {"s": [], "r": [("2", "1"), ("1", "2"), ("2", "1")]}
        before = copy.deepcopy(tables)
        question = read("?x : r ?x ?y , u ?x")
        for ask in (answers, counted):
            ask(question, tables)
            ask(read("?x : r ?x ?y"), tables)
            self.assertEqual(tables, before)
            self.assertEqual(list(tables), ["s", "r"])
        self.assertEqual(question, read("?x : r ?x ?y , u ?x"))

    def test_what_is_told_is_the_askers_own(self):
        question = read("?x : t ?x")
        for ask in (answers, counted):
            told = ask(question, TABLES)
            kept = ask(question, TABLES)
            expected = list(kept)
            told.append(("z",))
            told[0] = None
            self.assertEqual(kept, expected)
            self.assertEqual(ask(question, TABLES), expected)
            ask(read(": u a"), TABLES).append(None)
            self.assertEqual(ask(read(": u a"), TABLES), [])

    def test_what_is_done_to_the_tables_afterwards_changes_nothing(self):
        tables = {"t": [("1",)]}
        told = answers(read("?x : t ?x"), tables)
        tables["t"].append(("2",))
        self.assertEqual(told, [("1",)])
        self.assertEqual(answers(read("?x : t ?x"), tables), [("1",), ("2",)])
        tables["t"].clear()
        self.assertEqual(answers(read("?x : t ?x"), tables), [])

    def test_nothing_hangs_on_what_was_asked_before(self):
        texts = ["?x : t ?x", ": u a", "?x : r ?x ?y", ": t ?x", "a ?y : s ?x ?y"]
        first = [(answers(read(text), TABLES), counted(read(text), TABLES)) for text in texts]
        again = [(answers(read(text), TABLES), counted(read(text), TABLES)) for text in reversed(texts)]
        self.assertEqual(again[::-1], first)


if __name__ == "__main__":
    unittest.main()
