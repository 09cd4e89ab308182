import copy
import itertools
import unittest

from askviews.tables import is_tables, sorted_tables
from tests.helping import Truths, deep_things, no_texts

ROW = ("a", "b")
WRONG_VALUES = ["", "abcdefghi", "A", "?x", "?", "a b", " ", "a-b", ":", ","] + no_texts()


class Promise8IsTables(Truths):
    def asked(self, expected, thing):
        self.tells(is_tables(thing), expected, thing)

    def test_tables(self):
        for thing in (
            {},
            {"r": []},
            {"r": [], "s": []},
            {"r": [("a",)]},
            {"r": [ROW], "s": [("b",)]},
            {"r": [ROW], "s": []},
            {"r": [("b", "a"), ("a", "b")]},
            {"12345678": [("12345678", "0")]},
        ):
            self.asked(True, thing)

    def test_rows_twice(self):
        self.asked(True, {"r": [ROW, ROW]})
        self.asked(True, {"r": [ROW, ("c",), ROW], "s": [ROW]})

    def test_rows_of_unlike_lengths(self):
        self.asked(True, {"r": [("a",), ("a", "b"), ("a", "b", "c"), ("a", "b", "c", "d"), ("b",)]})

    def test_every_length_of_a_row(self):
        for length in range(8):
            self.asked(1 <= length <= 4, {"r": [("a",) * length]})
            self.asked(1 <= length <= 4, {"r": [ROW, ("a",) * length]})
            self.asked(1 <= length <= 4, {"r": [ROW], "s": [("a",) * length]})

    def test_more_than_sixty_rows(self):
        many = [("a" + str(number),) for number in range(500)]
        self.asked(True, {"r": many[:60]})
        self.asked(True, {"r": many[:61]})
        self.asked(True, {"r": many, "s": many})
        self.asked(True, {"r": [ROW] * 5000})
        self.asked(False, {"r": many + [()]})
        self.asked(True, dict([("r" + str(number), [ROW]) for number in range(500)]))

    def test_wrong_names(self):
        texts = [name for name in WRONG_VALUES if isinstance(name, str)]
        for name in texts + [0, 1, -1, True, False, None, ("r",), (), (None,), ("r", ("a",))]:
            self.asked(False, {name: [ROW]})
            self.asked(False, {name: []})
            self.asked(False, {"r": [ROW], name: [ROW]})
            self.asked(False, {name: [ROW], "r": [ROW]})

    def test_wrong_values_at_each_place_of_a_row(self):
        for wrong in WRONG_VALUES:
            for place in range(4):
                row = ["a", "b", "c", "d"]
                row[place] = wrong
                self.asked(False, {"r": [tuple(row)]})
                self.asked(False, {"r": [ROW, tuple(row)]})
                self.asked(False, {"r": [ROW], "s": [ROW, tuple(row), ROW]})
            self.asked(False, {"r": [(wrong,)]})

    def test_wrong_kinds_in_the_place_of_a_row(self):
        for wrong in (["a"], ["a", "b"], {"a": "b"}, {}, [], "a", "ab", "", None, True, False, 0, 1, (), ((),), (ROW,)):
            self.asked(False, {"r": [wrong]})
            self.asked(False, {"r": [ROW, wrong]})
            self.asked(False, {"r": [wrong, ROW]})
            self.asked(False, {"r": [ROW], "s": [wrong]})

    def test_wrong_kinds_in_the_place_of_the_rows(self):
        for wrong in ((), (ROW,), ROW, {}, {ROW: True}, {"a": ROW}, "", "a", "ab", None, True, False, 0, 1):
            self.asked(False, {"r": wrong})
            self.asked(False, {"r": [ROW], "s": wrong})
            self.asked(False, {"s": wrong, "t": [ROW]})

    def test_wrong_kinds_in_the_place_of_the_tables(self):
        for thing in (
            [], [("r", [ROW])], (), (("r", [ROW]),), ("r", [ROW]), ["r"], [ROW], "", "r", None, True, False, 0, 1,
            [{"r": [ROW]}], ({"r": [ROW]},), {"r": {"r": [ROW]}},
        ):
            self.asked(False, thing)
        for thing in no_texts():
            self.asked(thing == {}, thing)

    def test_deep_things(self):
        for thing in deep_things():
            self.asked(False, thing)
            self.asked(False, {"r": thing})
            self.asked(False, {"r": [thing]})
            self.asked(False, {"r": [(thing,)]})
            self.asked(False, {"r": [ROW, ("a", thing)]})


class Promise8SortedTables(unittest.TestCase):
    def test_sorted_each_once_and_no_name_without_rows(self):
        for tables, expected in (
            ({}, {}),
            ({"r": []}, {}),
            ({"r": [], "s": [ROW], "t": []}, {"s": [ROW]}),
            ({"r": [ROW, ROW]}, {"r": [ROW]}),
            ({"r": [("b",), ("a",), ("b",), ("c",), ("a",)]}, {"r": [("a",), ("b",), ("c",)]}),
            ({"s": [("b", "a"), ("a", "c")], "r": [ROW]}, {"r": [ROW], "s": [("a", "c"), ("b", "a")]}),
            ({"r": [("a", "b"), ("a",), ("b",), ("a", "b", "c"), ("a", "a")]},
             {"r": [("a",), ("a", "a"), ("a", "b"), ("a", "b", "c"), ("b",)]}),
            ({"r": [("a", "a"), ("a", "9"), ("9", "a"), ("10", "a"), ("9",)]},
             {"r": [("10", "a"), ("9",), ("9", "a"), ("a", "9"), ("a", "a")]}),
            ({"r": [ROW], "s": [ROW]}, {"r": [ROW], "s": [ROW]}),
        ):
            with self.subTest(tables=tables):
                told = sorted_tables(tables)
                self.assertEqual(told, expected)
                self.assertIs(type(told), dict)
                self.assertTrue(is_tables(told))

    def test_rows_in_every_order(self):
        rows = [("a",), ("a", "b"), ("b",), ("b", "a", "c"), ("c",)]
        for order in itertools.permutations(rows):
            self.assertEqual(sorted_tables({"r": list(order) + list(order[:2])}), {"r": rows})

    def test_what_was_told_is_told_again(self):
        tables = {"s": [("b",), ("a",)], "r": [], "t": [ROW, ROW]}
        told = sorted_tables(tables)
        self.assertEqual(sorted_tables(told), told)


class Promise2(unittest.TestCase):
    def test_what_is_handed_in_stays_as_it_was(self):
        things = no_texts() + [{"r": [("b",), ("a",), ("b",)], "s": []}, {"r": [["a"]]}, {"r": [("A",)]}]
        for thing in things:
            before = copy.deepcopy(thing)
            is_tables(thing)
            self.assertEqual(thing, before)
        tables = {"s": [], "r": [("b",), ("a",), ("b",)]}
        sorted_tables(tables)
        self.assertEqual(tables, {"s": [], "r": [("b",), ("a",), ("b",)]})
        self.assertEqual(list(tables), ["s", "r"])

    def test_what_is_told_is_the_askers_own(self):
        tables = {"r": [("a",), ("b",)], "s": [("c",)]}
        told = sorted_tables(tables)
        kept = sorted_tables(tables)
        told["r"].append(("z",))
        told["s"].clear()
        told["t"] = [("d",)]
        self.assertEqual(tables, {"r": [("a",), ("b",)], "s": [("c",)]})
        self.assertEqual(kept, tables)
        self.assertEqual(sorted_tables(tables), tables)

    def test_what_is_done_to_the_tables_afterwards_changes_nothing(self):
        tables = {"r": [("a",), ("b",)]}
        told = sorted_tables(tables)
        tables["r"].append(("c",))
        tables["s"] = [("d",)]
        self.assertEqual(told, {"r": [("a",), ("b",)]})

    def test_no_two_places_hold_one_list(self):
        rows = [("a",), ("b",)]
        told = sorted_tables({"r": rows, "s": rows, "t": rows})
        told["r"].append(("z",))
        self.assertEqual(told["s"], [("a",), ("b",)])
        self.assertEqual(rows, [("a",), ("b",)])
        self.assertEqual(len(set([id(held) for held in list(told.values()) + [rows]])), 4)


if __name__ == "__main__":
    unittest.main()
