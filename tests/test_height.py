"""Point 3: a piece is at most 30 levels high."""

import unittest

from askmark.errors import TooTall
from askmark.pieces import checked
from tests.places import BESIDE, FORMS, NUM, PLACES, STRANGE, refusal_of, tower, wrapped


class HeightTest(unittest.TestCase):
    def test_thirty_levels_of_each_place(self):
        for place in PLACES:
            for levels in [1, 2, 15, 29, 30]:
                with self.subTest(place=place, levels=levels):
                    self.assertEqual(checked(tower(place, levels)), 1 + (levels - 1) * BESIDE[place])

    def test_thirty_one_levels_of_each_place(self):
        for place in PLACES:
            for levels in [31, 32, 60]:
                with self.subTest(place=place, levels=levels):
                    self.assertIs(refusal_of(tower(place, levels)), TooTall)

    def test_each_place_as_the_lowest_and_as_the_highest(self):
        for place in PLACES:
            for other in PLACES:
                with self.subTest(place=place, other=other):
                    self.assertEqual(checked(wrapped(NUM, [place] + [other] * 28)),
                                     1 + BESIDE[place] + 28 * BESIDE[other])
                    self.assertIs(refusal_of(wrapped(NUM, [place] + [other] * 29)), TooTall)
                    self.assertIs(refusal_of(wrapped(NUM, [other] * 29 + [place])), TooTall)

    def test_all_places_in_turn(self):
        places = list(PLACES) * 3
        self.assertEqual(checked(wrapped(NUM, places[:29])), 1 + sum(BESIDE[place] for place in places[:29]))
        self.assertIs(refusal_of(wrapped(NUM, places)), TooTall)

    def test_two_high_parts_side_by_side(self):
        part = tower("A of an ask", 29)
        self.assertEqual(checked(("sum", part, part)), 59)
        self.assertEqual(checked(("choose", part, part, part)), 88)
        self.assertIs(refusal_of(("sum", part, ("ask", "coin", part))), TooTall)

    def test_each_form_at_level_thirty(self):
        for word, piece in FORMS.items():
            with self.subTest(word=word):
                high = wrapped(piece, ["B of a let"] * 29)
                self.assertEqual(refusal_of(high), 59 if word in ("num", "name") else TooTall)

    def test_a_name_at_level_thirty(self):
        body = wrapped(("name", "x"), ["B of a sum"] * 28)
        self.assertEqual(checked(("let", "x", NUM, body)), 59)
        self.assertIs(refusal_of(("let", "x", NUM, ("ask", "coin", body))), TooTall)

    def test_whatever_stands_at_level_thirty_one(self):
        wrong = [("num", 1000), ("name", "X"), ("name", "x"), ("sum", NUM), ("ask", "world", NUM)]
        for place in PLACES:
            for value in STRANGE + wrong + list(FORMS.values()):
                with self.subTest(place=place, value=repr(value)):
                    self.assertIs(refusal_of(wrapped(value, [place] * 30)), TooTall)
                    self.assertIs(refusal_of(wrapped(value, [place] + ["A of a sum"] * 29)), TooTall)

    def test_much_higher_pieces(self):
        for place in PLACES:
            for levels in [100, 1000, 5000, 100000]:
                with self.subTest(place=place, levels=levels):
                    self.assertIs(refusal_of(tower(place, levels)), TooTall)

    def test_much_higher_pieces_with_parts_that_stand_twice(self):
        piece = NUM
        for _ in range(500):
            piece = ("hand", "coin", "x", ("sum", piece, piece), piece)
        self.assertIs(refusal_of(piece), TooTall)


if __name__ == "__main__":
    unittest.main()
