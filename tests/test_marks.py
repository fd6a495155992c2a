"""Point 8: the kinds told of a piece."""

import itertools
import unittest

from askmark.marks import marks
from askmark.pieces import KINDS
from tests.places import NUM, ask, hand, tower

X = ("name", "x")

# Each choice of kinds, in the order of texts.
CHOICES = [list(choice) for many in range(4) for choice in itertools.combinations(KINDS, many)]


def with_kinds(kinds):
    """A piece with asks of these kinds."""
    piece = NUM
    for kind in kinds:
        piece = ("sum", piece, ask(kind, 1))
    return piece


def in_order(kinds):
    return [kind for kind in ["coin", "fail", "line"] if kind in kinds]


class FormsTest(unittest.TestCase):
    def test_none_of_a_num_and_a_name(self):
        self.assertEqual(marks(("num", 0)), [])
        self.assertEqual(marks(("num", 999)), [])
        self.assertEqual(marks(("let", "x", NUM, X)), [])
        for kind in KINDS:
            self.assertEqual(marks(("let", kind, NUM, ("name", kind))), [])

    def test_of_an_ask_its_kind(self):
        for kind in KINDS:
            with self.subTest(kind=kind):
                self.assertEqual(marks(ask(kind, 5)), [kind])

    def test_of_an_ask_those_of_its_piece_too(self):
        for kind in KINDS:
            for kinds in CHOICES:
                with self.subTest(kind=kind, kinds=kinds):
                    self.assertEqual(marks(("ask", kind, with_kinds(kinds))), in_order([kind, *kinds]))

    def test_of_a_sum_those_of_both(self):
        for left in CHOICES:
            for right in CHOICES:
                with self.subTest(left=left, right=right):
                    piece = ("sum", with_kinds(left), with_kinds(right))
                    self.assertEqual(marks(piece), in_order(left + right))

    def test_of_a_let_those_of_both(self):
        for left in CHOICES:
            for right in CHOICES:
                with self.subTest(left=left, right=right):
                    piece = ("let", "x", with_kinds(left), with_kinds(right))
                    self.assertEqual(marks(piece), in_order(left + right))

    def test_of_a_choose_those_of_all_three(self):
        for parts in itertools.product(CHOICES, repeat=3):
            with self.subTest(parts=parts):
                piece = ("choose", *[with_kinds(kinds) for kinds in parts])
                self.assertEqual(marks(piece), in_order(sum(parts, [])))

    def test_of_a_choose_also_those_of_a_piece_that_no_run_chooses(self):
        self.assertEqual(marks(("choose", ("num", 0), ask("coin", 1), NUM)), ["coin"])
        self.assertEqual(marks(("choose", ("num", 1), NUM, ask("fail", 1))), ["fail"])


class HandTest(unittest.TestCase):
    def test_each_choice_of_kinds_in_a_and_b(self):
        for kind in KINDS:
            for answer in CHOICES:
                for body in CHOICES:
                    with self.subTest(kind=kind, answer=answer, body=body):
                        wanted = [other for other in body if other != kind]
                        if kind in body:
                            wanted += answer
                        piece = hand(kind, with_kinds(answer), with_kinds(body))
                        self.assertEqual(marks(piece), in_order(wanted))

    def test_a_hand_round_its_kind(self):
        self.assertEqual(marks(hand("line", NUM, ask("line", 1))), [])
        self.assertEqual(marks(hand("line", ask("coin", 1), ask("line", 1))), ["coin"])

    def test_a_hand_round_no_ask_of_its_kind_does_not_come_to_its_answer(self):
        self.assertEqual(marks(hand("line", ask("coin", 1), NUM)), [])
        self.assertEqual(marks(hand("line", ask("coin", 1), ask("fail", 1))), ["fail"])
        self.assertEqual(marks(hand("line", ask("line", 1), ask("fail", 1))), ["fail"])

    def test_an_answer_that_has_the_hands_own_kind(self):
        for kind in KINDS:
            with self.subTest(kind=kind):
                self.assertEqual(marks(hand(kind, ask(kind, 1), ask(kind, 2))), [kind])
                self.assertEqual(marks(hand(kind, ask(kind, 1), NUM)), [])

    def test_hands_of_one_kind_within_each_other(self):
        for kind, other in itertools.permutations(KINDS, 2):
            with self.subTest(kind=kind, other=other):
                inner = hand(kind, NUM, ask(kind, 1))
                self.assertEqual(marks(hand(kind, ask(other, 1), inner)), [])
                inner = hand(kind, ask(kind, 1), ask(kind, 1))
                self.assertEqual(marks(hand(kind, ask(other, 1), inner)), [other])
                inner = hand(kind, ask(other, 1), ask(kind, 1))
                self.assertEqual(marks(hand(kind, ask(kind, 1), inner)), [other])
                inner = hand(kind, ask(kind, 1), ask(kind, 1))
                self.assertEqual(marks(hand(kind, ask(kind, 1), inner)), [kind])

    def test_hands_within_answers(self):
        answer = hand("coin", ask("fail", 1), ask("coin", 1))
        self.assertEqual(marks(hand("line", answer, ask("line", 1))), ["fail"])
        self.assertEqual(marks(hand("fail", NUM, hand("line", answer, ask("line", 1)))), [])
        self.assertEqual(marks(hand("fail", NUM, hand("line", answer, ask("coin", 1)))), ["coin"])

    def test_what_stands_beside_a_hand_keeps_its_kind(self):
        quiet = hand("line", NUM, ask("line", 1))
        self.assertEqual(marks(("sum", ask("line", 1), quiet)), ["line"])
        self.assertEqual(marks(("sum", quiet, ask("line", 1))), ["line"])
        self.assertEqual(marks(("ask", "line", quiet)), ["line"])
        self.assertEqual(marks(("let", "x", quiet, quiet)), [])


class ListTest(unittest.TestCase):
    def test_each_once_in_the_order_of_texts(self):
        for kinds in itertools.product(KINDS, repeat=4):
            with self.subTest(kinds=kinds):
                self.assertEqual(marks(with_kinds(kinds)), sorted(set(kinds)))

    def test_a_list_of_texts(self):
        for piece in [NUM, with_kinds(KINDS), hand("line", NUM, with_kinds(KINDS))]:
            self.assertIs(type(marks(piece)), list)
            self.assertEqual({type(kind) for kind in marks(piece)} - {str}, set())

    def test_a_new_list_with_each_call(self):
        for piece in [NUM, ask("line", 1), hand("coin", NUM, with_kinds(KINDS)), with_kinds(KINDS)]:
            with self.subTest(piece=piece):
                wanted = list(marks(piece))
                first = marks(piece)
                self.assertIsNot(first, marks(piece))
                first.append("more")
                del first[0]
                self.assertEqual(marks(piece), wanted)

    def test_the_kinds_stay_as_they_are(self):
        marks(with_kinds(KINDS)).clear()
        self.assertEqual(KINDS, ("coin", "fail", "line"))


class BeyondTest(unittest.TestCase):
    def test_pieces_with_texts_of_figures(self):
        for name in ["0", "1", "10", "999"]:
            with self.subTest(name=name):
                told = ("name", name)
                self.assertEqual(marks(("let", name, ask("coin", 1), told)), ["coin"])
                piece = ("hand", "line", name, ("ask", "fail", told), ask("line", 1))
                self.assertEqual(marks(piece), ["fail"])
                round_it = hand("line", ask("coin", 1), ("ask", "line", told))
                self.assertEqual(marks(("let", name, ask("fail", 1), round_it)), ["coin", "fail"])

    def test_high_pieces(self):
        for levels in [30, 31, 60, 150]:
            for place in ["A of a sum", "B of a let", "C of a choose", "A of a hand", "B of a hand"]:
                with self.subTest(levels=levels, place=place):
                    self.assertEqual(marks(tower(place, levels)), [])
            self.assertEqual(marks(tower("A of an ask", levels)), ["line"])

    def test_an_ask_from_deep_within(self):
        piece = ask("line", 1)
        for _ in range(40):
            piece = hand("coin", NUM, ("sum", NUM, piece))
        self.assertEqual(marks(piece), ["line"])
        self.assertEqual(marks(hand("line", ask("fail", 1), piece)), ["fail"])


if __name__ == "__main__":
    unittest.main()
