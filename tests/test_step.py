"""Point 10: what is next in a piece, and the step that is made there."""

import unittest

from askmark.steps import stands_at, step
from tests.places import FORMS, NUM, ask, hand, next_places, wrapped

X = ("name", "x")
# Pieces that are next, each with what it is by one step.
READY = [
    (("sum", ("num", 2), ("num", 3)), ("num", 5)),
    (("let", "x", ("num", 4), ("sum", X, NUM)), ("sum", ("num", 4), NUM)),
    (("choose", ("num", 1), X, ("name", "y")), X),
    (("choose", ("num", 0), X, ("name", "y")), ("name", "y")),
    (("hand", "line", "x", X, ("num", 6)), ("num", 6)),
]


def each_step(piece):
    """The piece and what it is by one step, by two, and so on."""
    steps = [piece]
    while step(steps[-1]) is not None:
        steps.append(step(steps[-1]))
    return steps


class NumTest(unittest.TestCase):
    def test_a_num_makes_no_step(self):
        for number in [0, 1, 7, 998, 999]:
            with self.subTest(number=number):
                self.assertIsNone(step(("num", number)))
                self.assertIsNone(stands_at(("num", number)))

    def test_where_a_piece_stands_at_an_ask_it_makes_no_step(self):
        for kind in ["coin", "fail", "line"]:
            self.assertIsNone(step(ask(kind, 5)))


class SumTest(unittest.TestCase):
    def test_of_999_and_less(self):
        for first, second in [(0, 0), (0, 1), (1, 0), (2, 3), (500, 499), (999, 0), (0, 999), (998, 1), (400, 598)]:
            with self.subTest(first=first, second=second):
                self.assertEqual(step(("sum", ("num", first), ("num", second))), ("num", first + second))

    def test_of_1000_and_more(self):
        for first, second in [(999, 1), (1, 999), (500, 500), (999, 999), (999, 2), (600, 601), (998, 2)]:
            with self.subTest(first=first, second=second):
                self.assertEqual(step(("sum", ("num", first), ("num", second))), ("num", first + second - 1000))

    def test_the_left_one_is_next_then_the_right_one(self):
        left = ("sum", ("num", 1), ("num", 2))
        right = ("sum", ("num", 10), ("num", 20))
        self.assertEqual(each_step(("sum", left, right)), [
            ("sum", left, right),
            ("sum", ("num", 3), right),
            ("sum", ("num", 3), ("num", 30)),
            ("num", 33),
        ])


class LetTest(unittest.TestCase):
    def test_a_is_next_and_b_is_not(self):
        first = ("sum", ("num", 1), ("num", 2))
        then = ("sum", ("num", 10), ("num", 20))
        self.assertEqual(each_step(("let", "x", first, then)), [
            ("let", "x", first, then),
            ("let", "x", ("num", 3), then),
            then,
            ("num", 30),
        ])

    def test_the_num_is_put_in_wherever_the_name_stands_for_what_it_tells(self):
        body = ("choose", X, ("ask", "line", X), ("hand", "fail", "y", ("sum", X, ("name", "y")), X))
        four = ("num", 4)
        self.assertEqual(
            step(("let", "x", four, body)),
            ("choose", four, ("ask", "line", four), ("hand", "fail", "y", ("sum", four, ("name", "y")), four)))

    def test_a_name_told_anew_within(self):
        four = ("num", 4)
        self.assertEqual(step(("let", "x", four, ("let", "x", X, X))), ("let", "x", four, X))
        self.assertEqual(step(("let", "x", four, ("hand", "line", "x", X, X))), ("hand", "line", "x", X, four))
        self.assertEqual(step(("let", "x", four, ("sum", ("let", "x", NUM, X), X))),
                         ("sum", ("let", "x", NUM, X), four))

    def test_the_inner_let_of_a_name_is_the_one_that_holds(self):
        piece = ("let", "x", ("num", 1), ("let", "x", ("sum", X, ("num", 10)), ("sum", X, X)))
        self.assertEqual(each_step(piece)[-1], ("num", 22))

    def test_a_b_without_the_name(self):
        self.assertEqual(step(("let", "x", ("num", 4), NUM)), NUM)
        self.assertEqual(step(("let", "x", ("num", 4), ask("line", 1))), ask("line", 1))

    def test_another_name_stays(self):
        piece = ("let", "y", ("num", 1), ("let", "x", ("num", 4), ("sum", X, ("name", "y"))))
        self.assertEqual(each_step(piece)[1:3], [
            ("let", "x", ("num", 4), ("sum", X, ("num", 1))),
            ("sum", ("num", 4), ("num", 1)),
        ])

    def test_texts_of_figures(self):
        zero = ("name", "0")
        self.assertEqual(step(("let", "0", ("num", 4), ("sum", zero, ("num", 0)))),
                         ("sum", ("num", 4), ("num", 0)))
        piece = ("let", "0", NUM, ("let", "10", zero, ("hand", "line", "1", ("sum", ("name", "1"), zero), zero)))
        self.assertEqual(step(piece),
                         ("let", "10", NUM, ("hand", "line", "1", ("sum", ("name", "1"), NUM), NUM)))


class ChooseTest(unittest.TestCase):
    def test_b_at_another_number_than_0(self):
        for number in [1, 2, 10, 500, 999]:
            with self.subTest(number=number):
                self.assertEqual(step(("choose", ("num", number), ask("line", 1), ask("coin", 2))), ask("line", 1))

    def test_c_at_0(self):
        self.assertEqual(step(("choose", ("num", 0), ask("line", 1), ask("coin", 2))), ask("coin", 2))

    def test_a_is_next_and_the_others_are_not(self):
        first = ("sum", ("num", 999), ("num", 1))
        other = ("sum", ("num", 10), ("num", 20))
        self.assertEqual(each_step(("choose", first, NUM, other)), [
            ("choose", first, NUM, other),
            ("choose", ("num", 0), NUM, other),
            other,
            ("num", 30),
        ])


class AskTest(unittest.TestCase):
    def test_its_piece_is_next(self):
        for kind in ["coin", "fail", "line"]:
            with self.subTest(kind=kind):
                piece = ("ask", kind, ("sum", ("num", 1), ("num", 2)))
                self.assertIsNone(stands_at(piece))
                self.assertEqual(each_step(piece), [piece, ask(kind, 3)])


class HandTest(unittest.TestCase):
    def test_round_a_num(self):
        for kind in ["coin", "fail", "line"]:
            for number in [0, 5, 999]:
                with self.subTest(kind=kind, number=number):
                    self.assertEqual(step(hand(kind, NUM, ("num", number))), ("num", number))
                    self.assertEqual(step(hand(kind, ask(kind, 1), ("num", number))), ("num", number))

    def test_b_is_next_and_a_is_not(self):
        answer = ("sum", ("num", 1), ("num", 2))
        body = ("sum", ("num", 10), ("num", 20))
        self.assertEqual(each_step(hand("line", answer, body)), [
            hand("line", answer, body),
            hand("line", answer, ("num", 30)),
            ("num", 30),
        ])

    def test_hands_within_each_other_go_one_by_one(self):
        inner = hand("line", NUM, ("num", 5))
        self.assertEqual(each_step(hand("coin", NUM, inner)), [
            hand("coin", NUM, inner), hand("coin", NUM, ("num", 5)), ("num", 5)])


class WhereTest(unittest.TestCase):
    def test_one_step_at_each_place_that_is_next(self):
        for place, put in next_places("line"):
            for part, after in READY:
                with self.subTest(place=place, part=part):
                    self.assertIsNone(stands_at(put(part)))
                    self.assertEqual(step(put(part)), put(after))

    def test_one_step_from_deep_within(self):
        places = ["A of a sum", "B of a hand", "B of a sum", "A of a let", "A of an ask", "A of a choose"] * 10
        for part, after in READY:
            with self.subTest(part=part):
                self.assertTrue(step(wrapped(part, places)) == wrapped(after, places))

    def test_one_step_at_a_time(self):
        pair = ("sum", ("num", 1), ("num", 2))
        self.assertEqual(step(("sum", pair, pair)), ("sum", ("num", 3), pair))
        self.assertEqual(step(("let", "x", ("num", 1), ("let", "x", ("num", 2), X))), ("let", "x", ("num", 2), X))
        self.assertEqual(step(hand("coin", NUM, pair)), hand("coin", NUM, ("num", 3)))

    def test_pieces_that_are_not_next_stay(self):
        for part in FORMS.values():
            with self.subTest(part=part):
                self.assertEqual(step(("sum", ("sum", NUM, NUM), part)), ("sum", ("num", 14), part))
                self.assertEqual(step(("let", "told", ("sum", NUM, NUM), part)), ("let", "told", ("num", 14), part))
                self.assertEqual(step(("choose", ("sum", NUM, NUM), part, part)),
                                 ("choose", ("num", 14), part, part))
                self.assertEqual(step(("hand", "line", "told", part, ("sum", NUM, NUM))),
                                 ("hand", "line", "told", part, ("num", 14)))


if __name__ == "__main__":
    unittest.main()
