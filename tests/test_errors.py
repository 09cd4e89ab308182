import unittest

from askviews.errors import AskError, Loose, NoAsk, NoHeld, NoRow, NoText, NoView, TooMany, Twice

MADE_OF = [
    (NoText, 3),
    (Loose, "?x"),
    (NoView, 1),
    (TooMany, "too many candidates"),
    (Twice, "a name that is taken"),
    (NoHeld, "a row that is not held"),
    (NoAsk, "a name of no question"),
    (NoRow, "no row of the desk"),
]


class Promise3(unittest.TestCase):
    def test_each_is_a_refusal_and_a_value_error(self):
        for kind, thing in MADE_OF:
            with self.subTest(kind=kind.__name__):
                self.assertEqual(kind.__bases__, (AskError,))
                error = kind(thing)
                self.assertIsInstance(error, kind)
                self.assertIsInstance(error, AskError)
                self.assertIsInstance(error, ValueError)
        self.assertEqual(AskError.__bases__, (ValueError,))

    def test_none_stands_under_another_one(self):
        for kind, thing in MADE_OF:
            for other, unused in MADE_OF:
                with self.subTest(kind=kind.__name__, other=other.__name__):
                    self.assertEqual(isinstance(kind(thing), other), kind == other)

    def test_the_base_is_none_of_them(self):
        for kind, unused in MADE_OF:
            self.assertNotIsInstance(AskError("words"), kind)

    def test_each_is_raised_and_taken_by_its_class_and_by_the_base(self):
        for kind, thing in MADE_OF:
            for taken in (kind, AskError, ValueError):
                with self.subTest(kind=kind.__name__, taken=taken.__name__):
                    with self.assertRaises(taken):
                        raise kind(thing)

    def test_the_fields_hold_what_the_error_was_made_of(self):
        for at in (0, 1, 17, 1000):
            self.assertEqual(NoText(at).at, at)
            self.assertEqual(NoView(at).place, at)
        for unknown in ("?x", "?12", "?abcdefgh"):
            self.assertEqual(Loose(unknown).unknown, unknown)

    def test_a_field_is_the_errors_own(self):
        first = NoText(1)
        second = NoText(2)
        self.assertEqual((first.at, second.at), (1, 2))

    def test_each_can_be_shown(self):
        for kind, thing in MADE_OF:
            with self.subTest(kind=kind.__name__):
                self.assertIsInstance(str(kind(thing)), str)


if __name__ == "__main__":
    unittest.main()
