"""Point 3: which names are told where."""

import unittest

from askmark.errors import BadName, BadPiece
from askmark.pieces import KINDS, checked
from tests.places import BESIDE, NUM, PLACES, refusal_of, settings

X = ("name", "x")
Y = ("name", "y")


def in_each_place(part):
    """The part within each place; no place tells the names x and y."""
    return [(place, put(part)) for place, put in PLACES.items()]


class NoneTellsTest(unittest.TestCase):
    def test_a_name_that_none_tells(self):
        for place, put in settings():
            for name in ["x", "a", "z", "abcdefgh", "tol", "tolda", "num", "line"]:
                with self.subTest(place=place, name=name):
                    self.assertIs(refusal_of(put(("name", name))), BadName)

    def test_a_name_that_another_let_or_hand_tells(self):
        self.assertIs(refusal_of(("let", "y", NUM, X)), BadName)
        self.assertIs(refusal_of(("hand", "line", "y", X, NUM)), BadName)
        self.assertIs(refusal_of(("let", "xx", NUM, X)), BadName)
        self.assertIs(refusal_of(("let", "x", NUM, ("name", "xx"))), BadName)
        self.assertIs(refusal_of(("hand", "line", "xy", X, NUM)), BadName)

    def test_what_is_no_name_is_no_piece_rather_than_untold(self):
        for name in ["", "X", "abcdefghi", None, ["x"]]:
            with self.subTest(name=name):
                self.assertIs(refusal_of(("name", name)), BadPiece)
                self.assertIs(refusal_of(("let", "x", NUM, ("name", name))), BadPiece)


class LetTest(unittest.TestCase):
    def test_the_name_holds_in_b(self):
        self.assertEqual(checked(("let", "x", NUM, X)), 3)
        for place, body in in_each_place(X):
            with self.subTest(place=place):
                self.assertEqual(checked(("let", "x", NUM, body)), 3 + BESIDE[place])

    def test_the_name_does_not_hold_in_a(self):
        self.assertIs(refusal_of(("let", "x", X, NUM)), BadName)
        self.assertIs(refusal_of(("let", "x", X, X)), BadName)
        for place, first in in_each_place(X):
            with self.subTest(place=place):
                self.assertIs(refusal_of(("let", "x", first, X)), BadName)

    def test_a_name_from_around_holds_in_both(self):
        self.assertEqual(checked(("let", "y", NUM, ("let", "x", Y, ("sum", X, Y)))), 7)
        self.assertEqual(checked(("hand", "coin", "y", ("let", "x", Y, ("sum", X, Y)), NUM)), 7)

    def test_a_name_told_twice(self):
        self.assertEqual(checked(("let", "x", NUM, ("let", "x", X, X))), 5)
        self.assertEqual(checked(("hand", "line", "x", ("let", "x", X, X), NUM)), 5)
        self.assertIs(refusal_of(("let", "x", ("let", "x", X, NUM), X)), BadName)

    def test_a_name_told_twice_still_holds_behind_the_inner_one(self):
        inner = ("let", "x", NUM, X)
        self.assertEqual(checked(("let", "x", NUM, ("sum", inner, X))), 7)
        self.assertEqual(checked(("let", "x", NUM, ("choose", X, inner, X))), 8)


class HandTest(unittest.TestCase):
    def test_the_name_holds_in_a(self):
        for kind in KINDS:
            self.assertEqual(checked(("hand", kind, "x", X, NUM)), 3)
            for place, answer in in_each_place(X):
                with self.subTest(kind=kind, place=place):
                    self.assertEqual(checked(("hand", kind, "x", answer, NUM)), 3 + BESIDE[place])

    def test_the_name_does_not_hold_in_b(self):
        for kind in KINDS:
            self.assertIs(refusal_of(("hand", kind, "x", NUM, X)), BadName)
            self.assertIs(refusal_of(("hand", kind, "x", X, X)), BadName)
            for place, body in in_each_place(X):
                with self.subTest(kind=kind, place=place):
                    self.assertIs(refusal_of(("hand", kind, "x", X, body)), BadName)

    def test_a_name_from_around_holds_in_both(self):
        self.assertEqual(checked(("let", "y", NUM, ("hand", "line", "x", ("sum", X, Y), Y))), 7)
        self.assertEqual(checked(("hand", "coin", "y", ("hand", "line", "x", ("sum", X, Y), Y), NUM)), 7)

    def test_a_name_told_twice(self):
        self.assertEqual(checked(("let", "x", NUM, ("hand", "line", "x", X, X))), 5)
        self.assertEqual(checked(("hand", "fail", "x", ("hand", "line", "x", X, X), NUM)), 5)
        self.assertIs(refusal_of(("hand", "fail", "x", X, ("hand", "line", "x", X, X))), BadName)


class NeighbourTest(unittest.TestCase):
    """A name that one part tells is not told in the part beside it."""

    def test_both_sides(self):
        for part in [("let", "x", NUM, X), ("hand", "coin", "x", X, NUM)]:
            for piece in [
                ("sum", part, X), ("sum", X, part),
                ("let", "y", part, X), ("let", "y", X, part),
                ("choose", part, X, NUM), ("choose", part, NUM, X), ("choose", NUM, part, X),
                ("choose", X, part, NUM), ("choose", X, NUM, part), ("choose", NUM, X, part),
                ("hand", "line", "y", part, X), ("hand", "line", "y", X, part),
            ]:
                with self.subTest(piece=piece):
                    self.assertIs(refusal_of(piece), BadName)

    def test_each_part_tells_its_own(self):
        let = ("let", "x", NUM, X)
        self.assertEqual(checked(("sum", let, let)), 7)
        self.assertEqual(checked(("let", "x", let, X)), 5)

    def test_nothing_is_told_from_one_call_to_the_next(self):
        self.assertEqual(refusal_of(("let", "x", NUM, X)), 3)
        self.assertIs(refusal_of(X), BadName)
        self.assertIs(refusal_of(("let", "x", NUM, ("num", 1000))), BadPiece)
        self.assertIs(refusal_of(X), BadName)
        self.assertEqual(refusal_of(("let", "x", NUM, X)), 3)


if __name__ == "__main__":
    unittest.main()
