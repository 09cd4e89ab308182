"""What the files of tests share: plain things to put at each place, and how a truth is looked at."""

import reprlib
import unittest


class Truths(unittest.TestCase):
    def tells(self, told, expected, thing):
        # repr itself fails of the deep things.
        with self.subTest(thing=reprlib.repr(thing)):
            self.assertIs(told, expected)


def no_texts():
    return [
        0, 1, -1, 10 ** 40, True, False, None,
        [], ["a"], ["?x"], (), ("a",), ("?x",), {}, {"a": "a"}, {"?x": True},
        [["a"]], (("a",),), [None], (None,), {"a": [("b", {})]},
    ]


def deep_things():
    deep_tuple = ()
    deep_list = []
    deep_dict = {}
    for unused in range(3000):
        deep_tuple = ("a", deep_tuple)
        deep_list = [deep_list]
        deep_dict = {"a": deep_dict}
    return [deep_tuple, deep_list, deep_dict]
