"""Points 3 and 10: a num in the place of a name."""

import unittest

from askmark.steps import put_in
from tests.places import NUM, PLACES, ask, wrapped

X = ("name", "x")
Y = ("name", "y")
FIVE = ("num", 5)


class PlacesTest(unittest.TestCase):
    def test_the_name_itself(self):
        for name in ["x", "abcdefgh", "num", "name", "line", "0", "7", "10", "123"]:
            for number in [0, 1, 5, 998, 999]:
                with self.subTest(name=name, number=number):
                    self.assertEqual(put_in(("name", name), name, number), ("num", number))

    def test_in_each_place(self):
        for place, put in PLACES.items():
            with self.subTest(place=place):
                self.assertEqual(put_in(put(X), "x", 5), put(FIVE))

    def test_deep_within(self):
        for place in PLACES:
            for other in PLACES:
                with self.subTest(place=place, other=other):
                    places = [place, other, "A of a hand", "B of a let", place]
                    self.assertEqual(put_in(wrapped(X, places), "x", 5), wrapped(FIVE, places))

    def test_wherever_it_stands(self):
        piece = ("sum", ("choose", X, ("ask", "coin", X), X), ("let", "y", X, ("sum", X, Y)))
        wanted = ("sum", ("choose", FIVE, ("ask", "coin", FIVE), FIVE),
                  ("let", "y", FIVE, ("sum", FIVE, Y)))
        self.assertEqual(put_in(piece, "x", 5), wanted)
        piece = ("hand", "fail", "y", ("sum", X, Y), ("sum", X, X))
        self.assertEqual(put_in(piece, "x", 5), ("hand", "fail", "y", ("sum", FIVE, Y), ("sum", FIVE, FIVE)))

    def test_nothing_else(self):
        for place, put in PLACES.items():
            for part in [NUM, Y, ("name", "xx"), ("name", "0"), ask("line", 5)]:
                with self.subTest(place=place, part=part):
                    self.assertEqual(put_in(put(part), "x", 5), put(part))

    def test_words_and_kinds_and_names_told_are_no_such_places(self):
        for name in ["num", "name", "sum", "let", "choose", "ask", "hand", "line", "coin"]:
            told = ("name", name)
            with self.subTest(name=name):
                for kind in ["line", "coin"]:
                    self.assertEqual(put_in(("ask", kind, told), name, 5), ("ask", kind, FIVE))
                    self.assertEqual(put_in(("hand", kind, "y", NUM, told), name, 5),
                                     ("hand", kind, "y", NUM, FIVE))
                self.assertEqual(put_in(("sum", told, NUM), name, 5), ("sum", FIVE, NUM))
                self.assertEqual(put_in(("let", name, NUM, NUM), name, 5), ("let", name, NUM, NUM))


class ToldWithinTest(unittest.TestCase):
    """A let or hand within that tells the same name."""

    def test_a_let(self):
        self.assertEqual(put_in(("let", "x", X, NUM), "x", 5), ("let", "x", FIVE, NUM))
        self.assertEqual(put_in(("let", "x", NUM, X), "x", 5), ("let", "x", NUM, X))
        self.assertEqual(put_in(("let", "x", X, X), "x", 5), ("let", "x", FIVE, X))

    def test_a_hand(self):
        for kind in ["coin", "fail", "line"]:
            with self.subTest(kind=kind):
                self.assertEqual(put_in(("hand", kind, "x", X, NUM), "x", 5), ("hand", kind, "x", X, NUM))
                self.assertEqual(put_in(("hand", kind, "x", NUM, X), "x", 5), ("hand", kind, "x", NUM, FIVE))
                self.assertEqual(put_in(("hand", kind, "x", X, X), "x", 5), ("hand", kind, "x", X, FIVE))

    def test_another_name_is_told(self):
        for name in ["y", "xx", "0"]:
            with self.subTest(name=name):
                self.assertEqual(put_in(("let", name, X, X), "x", 5), ("let", name, FIVE, FIVE))
                self.assertEqual(put_in(("hand", "line", name, X, X), "x", 5),
                                 ("hand", "line", name, FIVE, FIVE))

    def test_deep_within_and_in_each_place(self):
        for place, put in PLACES.items():
            for other, round_it in PLACES.items():
                with self.subTest(place=place, other=other):
                    piece = round_it(("let", "x", put(X), put(X)))
                    self.assertEqual(put_in(piece, "x", 5), round_it(("let", "x", put(FIVE), put(X))))
                    piece = round_it(("hand", "line", "x", put(X), put(X)))
                    self.assertEqual(put_in(piece, "x", 5), round_it(("hand", "line", "x", put(X), put(FIVE))))

    def test_told_anew_in_one_part_and_not_in_the_other(self):
        inner = ("let", "x", X, X)
        self.assertEqual(put_in(("let", "x", inner, X), "x", 5), ("let", "x", ("let", "x", FIVE, X), X))
        self.assertEqual(put_in(("let", "x", X, inner), "x", 5), ("let", "x", FIVE, inner))
        self.assertEqual(put_in(("hand", "line", "x", inner, X), "x", 5), ("hand", "line", "x", inner, FIVE))
        self.assertEqual(put_in(("hand", "line", "x", X, inner), "x", 5),
                         ("hand", "line", "x", X, ("let", "x", FIVE, X)))
        self.assertEqual(put_in(("sum", inner, X), "x", 5), ("sum", ("let", "x", FIVE, X), FIVE))

    def test_a_hand_in_a_let_that_tells_it(self):
        inner = ("hand", "coin", "y", X, X)
        self.assertEqual(put_in(("let", "x", inner, inner), "x", 5),
                         ("let", "x", ("hand", "coin", "y", FIVE, FIVE), inner))


class NamesTest(unittest.TestCase):
    def test_names_that_nothing_tells(self):
        piece = ("sum", ("let", "z", Y, ("name", "z")), ("hand", "line", "w", ("sum", X, Y), X))
        wanted = ("sum", ("let", "z", Y, ("name", "z")), ("hand", "line", "w", ("sum", FIVE, Y), FIVE))
        self.assertEqual(put_in(piece, "x", 5), wanted)
        self.assertEqual(put_in(piece, "z", 5), piece)
        self.assertEqual(put_in(piece, "w", 5), piece)
        self.assertEqual(put_in(piece, "other", 5), piece)

    def test_texts_of_figures(self):
        for name, other in [("0", "1"), ("1", "0"), ("1", "10"), ("10", "1"), ("9", "09"), ("x", "0"), ("0", "x")]:
            told, kept = ("name", name), ("name", other)
            with self.subTest(name=name, other=other):
                self.assertEqual(put_in(("sum", told, kept), name, 5), ("sum", FIVE, kept))
                self.assertEqual(put_in(("let", name, told, told), name, 5), ("let", name, FIVE, told))
                self.assertEqual(put_in(("let", other, told, told), name, 5), ("let", other, FIVE, FIVE))
                self.assertEqual(put_in(("hand", "coin", name, told, told), name, 5),
                                 ("hand", "coin", name, told, FIVE))
                self.assertEqual(put_in(("hand", "coin", other, told, told), name, 5),
                                 ("hand", "coin", other, FIVE, FIVE))

    def test_a_num_is_no_text_of_figures(self):
        self.assertEqual(put_in(("sum", ("num", 0), ("name", "0")), "0", 7), ("sum", ("num", 0), NUM))


class PieceTest(unittest.TestCase):
    def test_tuples_throughout(self):
        piece = put_in(("let", "x", ("sum", X, Y), ("hand", "line", "y", X, Y)), "y", 5)
        waiting = [piece]
        while waiting:
            whole = waiting.pop()
            self.assertIs(type(whole), tuple)
            waiting.extend(part for part in whole if type(part) not in (str, int))

    def test_high_pieces(self):
        for levels in [30, 60, 150]:
            for place in PLACES:
                with self.subTest(levels=levels, place=place):
                    there = [place] * levels
                    self.assertTrue(put_in(wrapped(X, there), "x", 5) == wrapped(FIVE, there))


if __name__ == "__main__":
    unittest.main()
