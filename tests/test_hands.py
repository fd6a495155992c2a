"""Points 5, 11 and 12: asks that go to the world, and asks that a hand answers, by steps."""

import itertools
import unittest

from askmark.pieces import KINDS
from askmark.steps import answered, stands_at, step
from tests.places import NUM, PLACES, ask, hand, next_places, wrapped

X = ("name", "x")
Y = ("name", "y")
ANSWERED = ["coin", "line"]


def others(kind):
    return [other for other in KINDS if other != kind]


def let_round(name, answer, whole):
    return ("let", name, answer, whole)


class WorldTest(unittest.TestCase):
    """No hand of its kind stands round the ask."""

    def test_an_ask_at_each_place_that_is_next(self):
        for kind in KINDS:
            for place, put in next_places(kind):
                for number in [0, 5, 999]:
                    with self.subTest(kind=kind, place=place, number=number):
                        piece = put(ask(kind, number))
                        self.assertEqual(stands_at(piece), (kind, number))
                        self.assertIsNone(step(piece))

    def test_a_tuple(self):
        self.assertIs(type(stands_at(ask("coin", 5))), tuple)

    def test_an_ask_that_is_not_next(self):
        for kind in KINDS:
            part = ask(kind, 5)
            for piece, after in [
                (("let", "x", NUM, part), part),
                (("choose", ("num", 1), part, NUM), part),
                (("choose", ("num", 0), NUM, part), part),
                (("choose", ("num", 0), part, NUM), NUM),
                (("choose", ("num", 1), NUM, part), NUM),
                (("sum", ("sum", NUM, NUM), part), ("sum", ("num", 14), part)),
                (("ask", kind, ("sum", NUM, NUM)), ask(kind, 14)),
            ]:
                with self.subTest(kind=kind, piece=piece):
                    self.assertIsNone(stands_at(piece))
                    self.assertEqual(step(piece), after)

    def test_the_left_ask_of_a_sum(self):
        for left, right in itertools.product(KINDS, repeat=2):
            with self.subTest(left=left, right=right):
                piece = ("sum", ask(left, 1), ask(right, 2))
                self.assertEqual(stands_at(piece), (left, 1))
                self.assertEqual(stands_at(answered(piece, 5)), (right, 2))

    def test_the_inner_ask_of_an_ask(self):
        for outer, inner in itertools.product(KINDS, repeat=2):
            with self.subTest(outer=outer, inner=inner):
                piece = ("ask", outer, ask(inner, 1))
                self.assertEqual(stands_at(piece), (inner, 1))
                self.assertEqual(stands_at(answered(piece, 5)), (outer, 5))

    def test_a_hand_of_another_kind(self):
        for kind in KINDS:
            for other in others(kind):
                with self.subTest(kind=kind, other=other):
                    piece = hand(other, ask(other, 1), ask(kind, 5))
                    self.assertEqual(stands_at(piece), (kind, 5))
                    self.assertIsNone(step(piece))

    def test_a_hand_of_its_kind_that_does_not_stand_round_it(self):
        for kind in KINDS:
            beside = hand(kind, NUM, ask(kind, 1))
            with self.subTest(kind=kind):
                self.assertEqual(stands_at(("sum", ask(kind, 5), beside)), (kind, 5))
                self.assertEqual(stands_at(("let", "x", ask(kind, 5), beside)), (kind, 5))
                self.assertEqual(stands_at(("choose", ask(kind, 5), beside, beside)), (kind, 5))
                piece = hand(others(kind)[0], beside, ask(kind, 5))
                self.assertEqual(stands_at(piece), (kind, 5))

    def test_from_deep_within(self):
        places = ["A of a sum", "B of a hand", "B of a sum", "A of a let", "A of an ask", "A of a choose"] * 10
        for kind in ["coin", "line"]:
            with self.subTest(kind=kind):
                self.assertEqual(stands_at(wrapped(ask(kind, 5), places)), (kind, 5))
                self.assertIsNone(step(wrapped(ask(kind, 5), places)))
                self.assertTrue(answered(wrapped(ask(kind, 5), places), 9) == wrapped(("num", 9), places))


class FailTest(unittest.TestCase):
    """A fail that a hand answers: the hand becomes its A."""

    def test_right_within_the_hand(self):
        piece = ("hand", "fail", "x", ("sum", X, NUM), ask("fail", 5))
        self.assertIsNone(stands_at(piece))
        self.assertEqual(step(piece), ("sum", ("num", 5), NUM))

    def test_nothing_of_b_goes_on(self):
        for place, put in next_places("fail"):
            with self.subTest(place=place):
                piece = ("hand", "fail", "x", ("ask", "line", X), put(ask("fail", 5)))
                self.assertIsNone(stands_at(piece))
                self.assertEqual(step(piece), ask("line", 5))

    def test_what_stands_around_the_hand_stays(self):
        piece = ("hand", "fail", "x", ("ask", "fail", X), ("sum", NUM, ask("fail", 5)))
        for place, put in next_places("fail"):
            with self.subTest(place=place):
                self.assertIsNone(stands_at(put(piece)))
                self.assertEqual(step(put(piece)), put(ask("fail", 5)))

    def test_the_nearest_of_several(self):
        inner = ("hand", "fail", "x", ("sum", X, NUM), ask("fail", 5))
        self.assertEqual(step(hand("fail", NUM, inner)), hand("fail", NUM, ("sum", ("num", 5), NUM)))

    def test_with_other_hands_between(self):
        body = hand("line", NUM, hand("coin", ask("fail", 8), ask("fail", 5)))
        self.assertEqual(step(("hand", "fail", "x", X, body)), ("num", 5))

    def test_an_answer_that_fails_again_fails_further_out(self):
        inner = ("hand", "fail", "x", ("ask", "fail", X), ask("fail", 5))
        self.assertEqual(step(inner), ask("fail", 5))
        self.assertEqual(stands_at(step(inner)), ("fail", 5))
        outer = ("hand", "fail", "y", ("sum", Y, NUM), inner)
        self.assertEqual(step(outer), ("hand", "fail", "y", ("sum", Y, NUM), ask("fail", 5)))
        self.assertEqual(step(step(outer)), ("sum", ("num", 5), NUM))


class AnswerTest(unittest.TestCase):
    """An ask for a line or a coin that a hand answers."""

    def test_right_within_the_hand(self):
        for kind in ANSWERED:
            with self.subTest(kind=kind):
                piece = ("hand", kind, "x", ("sum", X, NUM), ask(kind, 5))
                self.assertIsNone(stands_at(piece))
                self.assertEqual(step(piece), let_round(
                    "0", ("sum", ("num", 5), NUM), ("hand", kind, "x", ("sum", X, NUM), ("name", "0"))))

    def test_from_each_place_that_is_next(self):
        for kind in ANSWERED:
            for place, put in next_places(kind):
                with self.subTest(kind=kind, place=place):
                    piece = ("hand", kind, "x", ("ask", kind, X), put(ask(kind, 5)))
                    self.assertIsNone(stands_at(piece))
                    self.assertEqual(step(piece), let_round(
                        "0", ask(kind, 5), ("hand", kind, "x", ("ask", kind, X), put(("name", "0")))))

    def test_what_stands_around_the_hand_stays(self):
        for kind in ANSWERED:
            piece = ("hand", kind, "x", X, ("sum", NUM, ask(kind, 5)))
            after = let_round("0", ("num", 5), ("hand", kind, "x", X, ("sum", NUM, ("name", "0"))))
            for place, put in next_places(kind):
                with self.subTest(kind=kind, place=place):
                    self.assertIsNone(stands_at(put(piece)))
                    self.assertEqual(step(put(piece)), put(after))

    def test_the_nearest_of_several(self):
        for kind in ANSWERED:
            inner = hand(kind, ("num", 1), ask(kind, 5))
            with self.subTest(kind=kind):
                self.assertEqual(step(hand(kind, ("num", 2), ("sum", inner, NUM))), hand(kind, ("num", 2), (
                    "sum", let_round("0", ("num", 1), hand(kind, ("num", 1), ("name", "0"))), NUM)))

    def test_a_far_one_with_other_hands_between(self):
        for kind in ANSWERED:
            first, second = others(kind)

            def body(part):
                inner = hand(second, ask(kind, 8), ("sum", part, NUM))
                return ("let", "y", hand(first, NUM, inner), Y)

            with self.subTest(kind=kind):
                piece = ("hand", kind, "x", X, body(ask(kind, 5)))
                self.assertIsNone(stands_at(piece))
                self.assertEqual(step(piece), let_round(
                    "0", ("num", 5), ("hand", kind, "x", X, body(("name", "0")))))

    def test_one_ask_is_answered_and_those_behind_it_wait(self):
        for kind in ANSWERED:
            with self.subTest(kind=kind):
                piece = ("hand", kind, "x", X, ("sum", ask(kind, 5), ask(kind, 6)))
                piece = step(piece)
                self.assertEqual(piece, let_round(
                    "0", ("num", 5), ("hand", kind, "x", X, ("sum", ("name", "0"), ask(kind, 6)))))
                piece = step(piece)
                self.assertEqual(piece, ("hand", kind, "x", X, ("sum", ("num", 5), ask(kind, 6))))
                # The hand stays round what goes on: it answers the second one, too.
                self.assertEqual(step(piece), let_round(
                    "0", ("num", 6), ("hand", kind, "x", X, ("sum", ("num", 5), ("name", "0")))))

    def test_an_answer_that_asks_for_its_own_kind_asks_further_out(self):
        for kind in ANSWERED:
            with self.subTest(kind=kind):
                inner = ("hand", kind, "x", ("ask", kind, ("sum", X, NUM)), ask(kind, 5))
                piece = step(step(inner))
                kept = ("hand", kind, "x", ("ask", kind, ("sum", X, NUM)), ("name", "0"))
                self.assertEqual(piece, let_round("0", ask(kind, 12), kept))
                self.assertEqual(stands_at(piece), (kind, 12))
                self.assertEqual(answered(piece, 3), let_round("0", ("num", 3), kept))
                outer = step(step(step(("hand", kind, "y", Y, ("sum", NUM, inner)))))
                self.assertEqual(outer, let_round("1", ("num", 12), (
                    "hand", kind, "y", Y, ("sum", NUM, let_round("0", ("name", "1"), kept)))))

    def test_an_ask_in_an_answer_is_not_next(self):
        for kind in KINDS:
            piece = hand(kind, ask(kind, 1), ("sum", NUM, NUM))
            with self.subTest(kind=kind):
                self.assertIsNone(stands_at(piece))
                self.assertEqual(step(piece), hand(kind, ask(kind, 1), ("num", 14)))
                self.assertEqual(step(step(piece)), ("num", 14))

    def test_an_ask_of_another_kind_in_an_answer_meets_the_hands_further_out(self):
        inner = hand("line", ask("coin", 8), ask("line", 5))
        outer = hand("coin", ("num", 1), inner, "y")
        first = step(outer)
        kept = hand("line", ask("coin", 8), ("name", "0"))
        self.assertEqual(first, hand("coin", ("num", 1), let_round("0", ask("coin", 8), kept), "y"))
        self.assertEqual(step(first), let_round(
            "1", ("num", 1), hand("coin", ("num", 1), let_round("0", ("name", "1"), kept), "y")))


class PutInAnswerTest(unittest.TestCase):
    """The ask's num stands for X in A, and there alone."""

    def after(self, kind, answer, body=None):
        """What stands in the place of A by the step, and the hand as it stays."""
        piece = step(("hand", kind, "x", answer, body or ask(kind, 5)))
        return (piece, None) if kind == "fail" else (piece[2], piece[3])

    def test_in_each_place_of_the_answer(self):
        for kind in KINDS:
            for place, put in PLACES.items():
                with self.subTest(kind=kind, place=place):
                    self.assertEqual(self.after(kind, put(X))[0], put(("num", 5)))

    def test_not_where_the_answer_tells_it_anew(self):
        five = ("num", 5)
        for kind in KINDS:
            for answer, wanted in [
                (("let", "x", X, X), ("let", "x", five, X)),
                (("let", "x", NUM, ("sum", X, X)), ("let", "x", NUM, ("sum", X, X))),
                (("hand", "line", "x", X, X), ("hand", "line", "x", X, five)),
                (("hand", kind, "x", X, X), ("hand", kind, "x", X, five)),
                (("sum", ("let", "x", NUM, X), X), ("sum", ("let", "x", NUM, X), five)),
            ]:
                with self.subTest(kind=kind, answer=answer):
                    self.assertEqual(self.after(kind, answer)[0], wanted)

    def test_the_hand_that_stays_has_its_answer_as_it_was(self):
        for kind in ANSWERED:
            with self.subTest(kind=kind):
                self.assertEqual(self.after(kind, ("sum", X, X))[1],
                                 ("hand", kind, "x", ("sum", X, X), ("name", "0")))

    def test_not_in_b(self):
        # A let in B tells the same name: its name stands for what the let tells.
        for kind in ANSWERED:
            with self.subTest(kind=kind):
                body = ("let", "x", ask(kind, 5), X)
                self.assertEqual(self.after(kind, X, body)[1],
                                 ("hand", kind, "x", X, ("let", "x", ("name", "0"), X)))

    def test_an_answer_without_the_name(self):
        for kind in KINDS:
            with self.subTest(kind=kind):
                self.assertEqual(self.after(kind, NUM)[0], NUM)

    def test_texts_of_figures_as_the_hands_name(self):
        for kind in ANSWERED:
            with self.subTest(kind=kind):
                told = ("name", "0")
                piece = ("hand", kind, "0", ("sum", told, ("num", 0)), ask(kind, 5))
                self.assertEqual(step(piece), let_round(
                    "1", ("sum", ("num", 5), ("num", 0)),
                    ("hand", kind, "0", ("sum", told, ("num", 0)), ("name", "1"))))


class WhichTextTest(unittest.TestCase):
    """Which text R is."""

    def text(self, piece):
        after = step(piece)
        self.assertEqual(after[0], "let")
        return after[1]

    def in_hand(self, kind, answer, body, name="x"):
        return self.text(("hand", kind, name, answer, ("sum", ask(kind, 5), body)))

    def telling(self):
        """Functions, each of which puts a let or a hand that tells a text round a piece."""
        yield lambda piece, text: ("let", text, piece, NUM)
        yield lambda piece, text: ("let", text, NUM, piece)
        yield lambda piece, text: ("hand", "fail", text, NUM, piece)
        yield lambda piece, text: ("hand", "line", text, piece, NUM)

    def test_0_where_it_stands_nowhere(self):
        for kind in ANSWERED:
            for name in ["x", "y", "1", "2", "00", "01", "10"]:
                with self.subTest(kind=kind, name=name):
                    self.assertEqual(self.in_hand(kind, ("let", name, NUM, ("name", name)), NUM), "0")
                    self.assertEqual(self.in_hand(kind, NUM, ("let", name, NUM, ("name", name))), "0")
                    self.assertEqual(self.in_hand(kind, ("name", name), NUM, name), "0")

    def test_a_text_in_a_let_or_a_hand_in_a_and_in_b(self):
        for kind in ANSWERED:
            for tell in self.telling():
                for texts, wanted in [(["0"], "1"), (["1"], "0"), (["0", "1"], "2"), (["1", "0"], "2"),
                                      (["0", "2"], "1"), (["0", "1", "3"], "2"), (["2", "1", "0"], "3")]:
                    part = NUM
                    for text in texts:
                        part = tell(part, text)
                    with self.subTest(kind=kind, part=part):
                        self.assertEqual(self.in_hand(kind, part, NUM), wanted)
                        self.assertEqual(self.in_hand(kind, NUM, part), wanted)

    def test_texts_in_a_and_in_b_and_as_the_hands_own_name(self):
        for kind in ANSWERED:
            for own, in_a, in_b in itertools.permutations(["0", "1", "2"]):
                with self.subTest(kind=kind, own=own, in_a=in_a, in_b=in_b):
                    answer = ("let", in_a, NUM, NUM)
                    body = ("let", in_b, NUM, NUM)
                    self.assertEqual(self.in_hand(kind, answer, body, own), "3")
                    self.assertEqual(self.in_hand(kind, answer, body), own)
                    self.assertEqual(self.in_hand(kind, NUM, body, own), in_a)
                    self.assertEqual(self.in_hand(kind, answer, NUM, own), in_b)

    def test_the_hands_own_name(self):
        for kind in ANSWERED:
            with self.subTest(kind=kind):
                self.assertEqual(self.in_hand(kind, NUM, NUM, "0"), "1")
                self.assertEqual(self.in_hand(kind, NUM, NUM, "1"), "0")

    def test_a_hand_of_each_kind_in_a_and_in_b(self):
        for kind in ANSWERED:
            for other in KINDS:
                with self.subTest(kind=kind, other=other):
                    self.assertEqual(self.in_hand(kind, hand(other, NUM, NUM, "0"), NUM), "1")
                    self.assertEqual(self.in_hand(kind, NUM, hand(other, NUM, NUM, "0")), "1")

    def test_a_let_or_a_hand_and_the_names_it_tells(self):
        for kind in ANSWERED:
            for place, put in PLACES.items():
                with self.subTest(kind=kind, place=place):
                    body = ("let", "0", ask(kind, 5), put(("name", "0")))
                    self.assertEqual(self.text(hand(kind, NUM, body)), "1")
                    answer = hand(kind, put(("name", "0")), NUM, "0")
                    self.assertEqual(self.text(hand(kind, answer, ask(kind, 5))), "1")

    def test_a_text_told_outside_that_was_put_in_counts_no_more(self):
        for kind in ANSWERED:
            zero = ("name", "0")
            inner = ("let", "x", NUM, ("hand", kind, "y", zero, ask(kind, 5)))
            with self.subTest(kind=kind):
                piece = step(step(("let", "0", ("num", 3), inner)))
                self.assertEqual(piece, ("hand", kind, "y", ("num", 3), ask(kind, 5)))
                self.assertEqual(self.text(piece), "0")

    def test_in_each_place_within(self):
        for kind in ANSWERED:
            for place, put in PLACES.items():
                with self.subTest(kind=kind, place=place):
                    part = put(("let", "0", NUM, NUM))
                    self.assertEqual(self.in_hand(kind, part, NUM), "1")
                    self.assertEqual(self.in_hand(kind, NUM, part), "1")
                    deep = wrapped(part, ["B of a choose", "A of a hand", "B of a let", "A of an ask"])
                    self.assertEqual(self.in_hand(kind, deep, NUM), "1")
                    self.assertEqual(self.in_hand(kind, NUM, deep), "1")

    def test_what_stands_outside_of_the_hand_does_not_count(self):
        for kind in ANSWERED:
            inner = hand(kind, NUM, ask(kind, 5))
            after = let_round("0", NUM, hand(kind, NUM, ("name", "0")))
            zero = ("let", "0", NUM, ("name", "0"))
            for put in [
                lambda part: ("let", "0", part, ("name", "0")),
                lambda part: ("sum", part, zero),
                lambda part: ("choose", part, zero, zero),
                lambda part: ("let", "x", part, zero),
                lambda part: hand("fail", zero, part, "0"),
                lambda part: hand(kind, zero, part, "0"),
            ]:
                with self.subTest(kind=kind, piece=put(inner)):
                    self.assertEqual(step(put(inner)), put(after))

    def test_numbers_and_kinds_are_no_names(self):
        for kind in ANSWERED:
            self.assertEqual(self.in_hand(kind, ("num", 0), ("sum", ("num", 0), ("num", 1))), "0")

    def test_more_than_ten(self):
        for kind in ANSWERED:
            for many in [9, 10, 11, 12, 25, 101]:
                texts = [str(number) for number in range(many)]
                for tell in self.telling():
                    for order in [texts, texts[::-1]]:
                        part = NUM
                        for text in order:
                            part = tell(part, text)
                        with self.subTest(kind=kind, many=many):
                            self.assertEqual(self.in_hand(kind, part, NUM), str(many))
                            self.assertEqual(self.in_hand(kind, NUM, part), str(many))

    def test_one_that_is_left_out(self):
        for left_out in range(13):
            part = NUM
            for number in range(13):
                if number != left_out:
                    part = ("let", str(number), part, NUM)
            with self.subTest(left_out=left_out):
                self.assertEqual(self.in_hand("line", NUM, part), str(left_out))

    def test_many_that_come_by_steps(self):
        # Each hand answers by asking further out, so that each stands in a let of its own.
        piece = ask("line", 5)
        for level in range(14):
            piece = ("hand", ANSWERED[(level + 1) % 2], "x", ("ask", ANSWERED[level % 2], X), piece)
        while stands_at(piece) is None:
            piece = step(piece)
        found = []
        while piece[0] in ("let", "hand"):
            if piece[0] == "let":
                found.append(piece[1])
            # B of both.
            piece = piece[-1]
        self.assertEqual(found, [str(number) for number in reversed(range(14))])
        self.assertEqual(piece, ("name", "0"))


class AnsweredTest(unittest.TestCase):
    def test_the_num_in_the_place_of_the_ask(self):
        for kind in KINDS:
            for place, put in next_places(kind):
                for number in [0, 1, 5, 999]:
                    with self.subTest(kind=kind, place=place, number=number):
                        self.assertEqual(answered(put(ask(kind, 5)), number), put(("num", number)))

    def test_a_fail_too(self):
        piece = ("sum", NUM, ("ask", "line", ask("fail", 5)))
        self.assertEqual(answered(piece, 9), ("sum", NUM, ask("line", 9)))

    def test_all_else_stays(self):
        for kind in KINDS:
            same = ask(kind, 5)
            for piece, after in [
                (("sum", same, same), ("sum", NUM, same)),
                (("let", "x", same, same), ("let", "x", NUM, same)),
                (("choose", same, same, same), ("choose", NUM, same, same)),
                (("let", "x", ("ask", kind, same), X), ("let", "x", ("ask", kind, NUM), X)),
                (hand(others(kind)[0], same, same), hand(others(kind)[0], same, NUM)),
                (hand(others(kind)[1], same, ("sum", same, same)), hand(others(kind)[1], same, ("sum", NUM, same))),
            ]:
                with self.subTest(kind=kind, piece=piece):
                    self.assertEqual(answered(piece, 7), after)

    def test_the_ask_in_an_answer_at_which_a_piece_stands(self):
        for kind in ANSWERED:
            kept = ("hand", kind, "x", ("ask", kind, X), ("sum", ("name", "0"), ask(kind, 6)))
            with self.subTest(kind=kind):
                self.assertEqual(answered(let_round("0", ask(kind, 5), kept), 8), let_round("0", ("num", 8), kept))

    def test_what_is_handed_in_stays(self):
        piece = ("sum", ask("line", 5), X)
        answered(piece, 1)
        step(piece)
        self.assertEqual(piece, ("sum", ("ask", "line", ("num", 5)), ("name", "x")))


if __name__ == "__main__":
    unittest.main()
