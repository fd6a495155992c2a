"""Points 4 to 7: what a run tells, by steps and by carrying on."""

import copy
import unittest

from askmark.carrying import carried
from askmark.pieces import KINDS
from askmark.steps import by_steps
from tests.direct import directly
from tests.places import NUM, ask, hand, next_places, wrapped

X = ("name", "x")
Y = ("name", "y")
WAYS = [by_steps, carried]


def ask_of(kind, piece):
    return ("ask", kind, piece)


def summed(*pieces):
    whole = pieces[0]
    for piece in pieces[1:]:
        whole = ("sum", whole, piece)
    return whole


class RunsTest(unittest.TestCase):
    def check(self, piece, lines, coins, word, number, asks):
        """Each way of making a run tells just this."""
        for way in WAYS + [directly]:
            with self.subTest(way=way.__name__, piece=piece, lines=lines, coins=coins):
                self.assertEqual(way(piece, lines, coins), (word, number, asks))


class OrderTest(RunsTest):
    """Point 4."""

    def test_a_num(self):
        for number in [0, 1, 999]:
            self.check(("num", number), [1], [1], "value", number, [])

    def test_a_sum_from_the_left(self):
        self.check(("sum", ask("line", 1), ask("coin", 2)), [5], [1], "value", 6, [("line", 1), ("coin", 2)])
        self.check(("sum", ask("coin", 1), ask("line", 2)), [5], [1], "value", 6, [("coin", 1), ("line", 2)])
        self.check(("sum", ask("line", 1), ask("line", 2)), [5, 6], [], "value", 11, [("line", 1), ("line", 2)])
        self.check(summed(ask("line", 1), ask("line", 2), ask("line", 3)), [5, 6, 7], [], "value", 18,
                   [("line", 1), ("line", 2), ("line", 3)])
        self.check(("sum", ask("line", 1), ("sum", ask("line", 2), ask("line", 3))), [5, 6, 7], [], "value", 18,
                   [("line", 1), ("line", 2), ("line", 3)])

    def test_a_sum_less_1000(self):
        for first, second, total in [(999, 0, 999), (999, 1, 0), (999, 999, 998), (500, 500, 0), (500, 499, 999)]:
            self.check(("sum", ("num", first), ("num", second)), [], [], "value", total, [])
            self.check(("sum", ask("line", 1), ask("line", 2)), [first, second], [], "value", total,
                       [("line", 1), ("line", 2)])

    def test_a_of_a_let_and_then_b(self):
        piece = ("let", "x", ask("line", 1), ("sum", ask_of("line", X), X))
        self.check(piece, [5, 6], [], "value", 11, [("line", 1), ("line", 5)])

    def test_a_of_a_let_once(self):
        piece = ("let", "x", ask("line", 1), summed(X, X, X))
        self.check(piece, [5, 6, 7], [], "value", 15, [("line", 1)])

    def test_a_of_a_let_whose_b_is_without_the_name(self):
        self.check(("let", "x", ask("line", 1), NUM), [5], [], "value", 7, [("line", 1)])
        self.check(("let", "x", ask("fail", 1), NUM), [5], [], "fail", 1, [("fail", 1)])

    def test_names_told_within_each_other(self):
        piece = ("let", "x", ("num", 1), ("let", "x", ("sum", X, ("num", 10)), ("sum", X, X)))
        self.check(piece, [], [], "value", 22, [])
        piece = ("let", "x", ("num", 1), ("sum", ("let", "x", ("num", 10), X), X))
        self.check(piece, [], [], "value", 11, [])
        piece = ("let", "x", ("num", 1), ("let", "y", ("num", 10), ("let", "x", Y, ("sum", X, Y))))
        self.check(piece, [], [], "value", 20, [])

    def test_a_choose_and_just_the_one_that_is_chosen(self):
        piece = ("choose", ask("coin", 1), ask("line", 2), ask("line", 3))
        self.check(piece, [5, 6], [1], "value", 5, [("coin", 1), ("line", 2)])
        self.check(piece, [5, 6], [0], "value", 5, [("coin", 1), ("line", 3)])
        piece = ("choose", ask("line", 1), ("num", 10), ask("fail", 3))
        for number in [1, 2, 999]:
            self.check(piece, [number], [], "value", 10, [("line", 1)])
        self.check(piece, [0], [], "fail", 3, [("line", 1), ("fail", 3)])
        self.check(("choose", NUM, NUM, ask("fail", 3)), [], [], "value", 7, [])
        self.check(("choose", ("num", 0), ask("fail", 3), NUM), [], [], "value", 7, [])

    def test_a_of_an_ask_and_then_the_ask(self):
        self.check(ask_of("line", ask("line", 1)), [5, 6], [], "value", 6, [("line", 1), ("line", 5)])
        self.check(ask_of("line", ask("coin", 1)), [5], [1], "value", 5, [("coin", 1), ("line", 1)])
        self.check(ask_of("coin", ask("line", 1)), [5], [1], "value", 1, [("line", 1), ("coin", 5)])
        self.check(ask_of("fail", ask("line", 1)), [5], [], "fail", 5, [("line", 1), ("fail", 5)])
        self.check(ask_of("line", ("sum", ("num", 999), ("num", 2))), [5], [], "value", 5, [("line", 1)])

    def test_b_of_a_hand_and_not_its_a(self):
        for kind in KINDS:
            self.check(hand(kind, ask("fail", 9), NUM), [], [], "value", 7, [])
            for other in ["line", "coin"]:
                if other != kind:
                    self.check(hand(kind, ask("fail", 9), ask(other, 1)), [1], [1], "value", 1, [(other, 1)])


class HandTest(RunsTest):
    """Point 5."""

    def test_an_answer_is_the_number_of_the_ask(self):
        for kind in ["coin", "line"]:
            self.check(("hand", kind, "x", ("sum", X, ("num", 10)), ask(kind, 5)), [1], [1], "value", 15, [])
            self.check(("hand", kind, "x", ("sum", X, ("num", 10)), ("sum", ask(kind, 5), ("num", 100))),
                       [1], [1], "value", 115, [])
            self.check(("hand", kind, "x", X, ask_of(kind, ask(kind, 5))), [1], [1], "value", 5, [])

    def test_a_hand_may_answer_with_more_than_a_coin(self):
        self.check(hand("coin", ("num", 999), ask("coin", 5)), [], [], "value", 999, [])

    def test_the_hand_stays_round_what_goes_on(self):
        for kind in ["coin", "line"]:
            body = summed(ask(kind, 5), ask(kind, 6), ask(kind, 7))
            self.check(("hand", kind, "x", ("sum", X, X), body), [1], [1], "value", 36, [])
            body = ("let", "y", ask(kind, 5), ask_of(kind, Y))
            self.check(("hand", kind, "x", ("sum", X, X), body), [1], [1], "value", 20, [])

    def test_behind_the_hand_asks_go_to_the_world_again(self):
        quiet = hand("line", NUM, ask("line", 1))
        self.check(("sum", quiet, ask("line", 2)), [100], [], "value", 107, [("line", 2)])
        self.check(("sum", ask("line", 2), quiet), [100], [], "value", 107, [("line", 2)])
        self.check(ask_of("line", quiet), [100], [], "value", 100, [("line", 7)])
        self.check(("let", "x", quiet, ask_of("line", X)), [100], [], "value", 100, [("line", 7)])

    def test_the_nearest_hand_of_its_kind(self):
        inner = ("hand", "line", "x", ("sum", X, ("num", 10)), ask("line", 5))
        self.check(hand("line", ("num", 1), inner), [], [], "value", 15, [])
        between = ("hand", "coin", "x", ("num", 3), hand("fail", ("num", 4), ask("line", 5)))
        self.check(("hand", "line", "x", ("sum", X, ("num", 10)), between), [], [], "value", 15, [])
        self.check(hand("line", ("num", 1), ("sum", inner, ask("line", 2))), [], [], "value", 16, [])

    def test_hands_of_other_kinds_let_an_ask_by(self):
        for kind, other in [("line", "coin"), ("line", "fail"), ("coin", "line"), ("coin", "fail")]:
            self.check(hand(other, ("num", 100), ask(kind, 5)), [1], [1], "value", 1, [(kind, 5)])
        for other in ["line", "coin"]:
            self.check(hand(other, ("num", 100), ask("fail", 5)), [1], [1], "fail", 5, [("fail", 5)])

    def test_an_ask_in_an_answer_goes_further_out(self):
        own = ("hand", "line", "x", ("sum", ask_of("line", ("sum", X, ("num", 10))), X), ask("line", 5))
        self.check(own, [100], [], "value", 105, [("line", 15)])
        self.check(("hand", "line", "y", ("sum", Y, Y), own), [100], [], "value", 35, [])
        other = ("hand", "line", "x", ask_of("coin", X), ask("line", 5))
        self.check(other, [], [1], "value", 1, [("coin", 5)])
        self.check(("hand", "coin", "y", ("sum", Y, Y), other), [], [1], "value", 10, [])

    def test_an_answer_stands_outside_of_hands_within_the_hand(self):
        # The coin is asked for in the answer of the line's hand, outside of the hand for coins.
        inner = hand("coin", ("num", 100), ask("line", 5))
        self.check(("hand", "line", "x", ask_of("coin", X), inner), [], [1], "value", 1, [("coin", 5)])
        inner = hand("fail", ("num", 100), ask("line", 5))
        self.check(("hand", "line", "x", ask_of("fail", X), inner), [], [], "fail", 5, [("fail", 5)])

    def test_hands_within_an_answer(self):
        answer = ("hand", "line", "y", ("sum", Y, ("num", 1)), ask_of("line", X))
        self.check(("hand", "line", "x", answer, ask("line", 5)), [100], [], "value", 6, [])
        answer = ("hand", "fail", "y", ("sum", Y, ("num", 1)), ("sum", NUM, ask_of("fail", X)))
        self.check(("hand", "line", "x", answer, ("sum", ask("line", 5), ("num", 10))), [], [], "value", 16, [])

    def test_names_in_an_answer_stand_for_what_they_do_round_the_hand(self):
        piece = ("let", "y", ("num", 100), ("hand", "line", "x", ("sum", X, Y), ("let", "y", NUM, ask("line", 5))))
        self.check(piece, [], [], "value", 105, [])
        piece = ("let", "x", ("num", 100), ("hand", "line", "x", X, ("sum", ask("line", 5), X)))
        self.check(piece, [], [], "value", 105, [])
        body = ("let", "x", NUM, ("sum", ask("line", 5), X))
        piece = ("let", "x", ("num", 100), ("hand", "line", "y", ("sum", X, Y), body))
        self.check(piece, [], [], "value", 112, [])

    def test_names_in_b_hold_behind_an_answer(self):
        piece = ("hand", "line", "x", ("let", "y", ("num", 100), Y), ("let", "y", NUM, ("sum", ask("line", 5), Y)))
        self.check(piece, [], [], "value", 107, [])

    def test_answers_by_asking_the_world(self):
        piece = ("hand", "line", "x", ("sum", ask("line", 8), ask_of("line", X)),
                 ("sum", ask("line", 5), ask("line", 6)))
        self.check(piece, [1, 10, 100, 200], [], "value", 311,
                   [("line", 8), ("line", 5), ("line", 8), ("line", 6)])

    def test_answers_that_go_from_hand_to_hand(self):
        piece = ask("line", 1)
        for level in range(28):
            kind, other = [("line", "coin"), ("coin", "line")][level % 2]
            piece = ("hand", kind, "x", ask_of(other, ("sum", X, ("num", 1))), piece)
        self.check(piece, [600, 700], [], "value", 600, [("line", 29)])

    def test_an_answer_from_far_goes_back_through_all(self):
        inner = ("hand", "line", "x", ("sum", ask_of("coin", X), ("num", 1)), ("sum", ask("line", 5), ask("line", 6)))
        middle = ("hand", "coin", "y", ("sum", ask_of("line", Y), ("num", 10)), ("sum", inner, ask("coin", 7)))
        self.check(middle, [100, 200, 300], [], "value", 632, [("line", 5), ("line", 6), ("line", 7)])


class HighTest(RunsTest):
    """Pieces beyond 30 levels, as they come by steps."""

    def test_high_pieces(self):
        for levels in [30, 60, 150]:
            for place, number in [
                ("A of a sum", (7 * levels + 3) % 1000),
                ("B of a sum", (7 * levels + 3) % 1000),
                ("A of a let", 7),
                ("A of a choose", 7),
                ("B of a hand", 3),
            ]:
                piece = wrapped(ask("line", 5), [place] * levels)
                self.check(piece, [3], [], "value", number, [("line", 5)])

    def test_high_stacks_of_hands(self):
        piece = ask("line", 1)
        for level in range(70):
            kind, other = [("line", "coin"), ("coin", "line")][level % 2]
            piece = ("hand", kind, "x", ask_of(other, ("sum", X, ("num", 1))), piece)
        self.check(("hand", "line", "y", ("sum", Y, Y), piece), [], [], "value", 142, [])


class FailTest(RunsTest):
    """Points 5 to 7: fails that a hand answers, and fails that come to the world."""

    def test_a_fail_that_comes_to_the_world_ends_the_run(self):
        for number in [0, 1, 999]:
            self.check(ask("fail", number), [1], [1], "fail", number, [("fail", number)])
        self.check(("sum", ask("fail", 5), ask("line", 1)), [1], [], "fail", 5, [("fail", 5)])
        self.check(("sum", ask("line", 1), ask("fail", 5)), [1], [], "fail", 5, [("line", 1), ("fail", 5)])
        self.check(("sum", ask("fail", 5), ask("fail", 6)), [], [], "fail", 5, [("fail", 5)])

    def test_from_each_place(self):
        for place, put in next_places("fail"):
            self.check(put(ask("fail", 5)), [1], [1], "fail", 5, [("fail", 5)])

    def test_a_hand_comes_to_its_answer_and_nothing_of_b_goes_on(self):
        for place, put in next_places("fail"):
            piece = ("hand", "fail", "x", ("sum", X, ("num", 10)), put(ask("fail", 5)))
            self.check(piece, [1], [1], "value", 15, [])
            self.check(("sum", piece, ask("line", 2)), [100], [], "value", 115, [("line", 2)])

    def test_what_came_to_the_world_ahead_of_the_fail(self):
        body = ("sum", ask("line", 1), ("sum", ask("fail", 5), ask("line", 2)))
        self.check(("sum", hand("fail", ask("line", 3), body), ask("line", 4)), [1, 10, 100], [], "value", 110,
                   [("line", 1), ("line", 3), ("line", 4)])

    def test_from_deep_within(self):
        places = ["A of a sum", "B of a sum", "A of a let", "A of an ask", "A of a choose"] * 5
        piece = wrapped(ask("fail", 5), places)
        self.check(piece, [], [], "fail", 5, [("fail", 5)])
        self.check(("hand", "fail", "x", X, piece), [], [], "value", 5, [])
        between = hand("line", NUM, hand("coin", NUM, piece))
        self.check(("hand", "fail", "x", X, between), [], [], "value", 5, [])

    def test_the_nearest_hand(self):
        inner = ("hand", "fail", "x", ("sum", X, ("num", 10)), ask("fail", 5))
        self.check(hand("fail", ("num", 1), inner), [], [], "value", 15, [])
        self.check(hand("fail", ("num", 1), ("sum", inner, ask("fail", 6))), [], [], "value", 1, [])

    def test_a_fail_in_an_answer_goes_further_out(self):
        inner = ("hand", "fail", "x", ask_of("fail", ("sum", X, ("num", 10))), ask("fail", 5))
        self.check(inner, [], [], "fail", 15, [("fail", 15)])
        self.check(("hand", "fail", "y", ("sum", Y, ("num", 100)), inner), [], [], "value", 115, [])

    def test_a_fail_in_the_answer_of_a_line(self):
        inner = ("hand", "line", "x", ask_of("fail", X), ("sum", ask("line", 5), ask("line", 6)))
        self.check(inner, [1], [], "fail", 5, [("fail", 5)])
        self.check(("hand", "fail", "y", ("sum", Y, ("num", 100)), inner), [1], [], "value", 105, [])
        # A hand for fails that stands within the hand for lines is not round that answer.
        within = ("hand", "line", "x", ask_of("fail", X), hand("fail", NUM, ask("line", 5)))
        self.check(within, [1], [], "fail", 5, [("fail", 5)])

    def test_a_line_in_the_answer_of_a_fail(self):
        inner = ("hand", "fail", "x", ("sum", ask_of("line", X), ask("line", 2)), ask("fail", 5))
        self.check(inner, [1, 10], [], "value", 11, [("line", 5), ("line", 2)])
        self.check(("hand", "line", "y", ("sum", Y, Y), inner), [1, 10], [], "value", 14, [])

    def test_hands_within_a_hand_for_fails_are_gone(self):
        inner = hand("line", ("num", 100), ask("fail", 5))
        self.check(("hand", "fail", "x", ask_of("line", X), inner), [1], [], "value", 1, [("line", 5)])

    def test_an_answer_under_way_is_dropped(self):
        # The fail comes while the hand for lines works out its answer.
        body = hand("line", ("sum", ask("coin", 1), ask("fail", 5)), ("sum", ask("line", 2), ask("line", 3)))
        self.check(("sum", ("hand", "fail", "x", X, body), ask("line", 4)), [100], [1], "value", 105,
                   [("coin", 1), ("line", 4)])


class WorldTest(RunsTest):
    """Point 6: the rows."""

    def test_lines_one_by_one(self):
        piece = summed(ask("line", 1), ask("line", 2), ask("line", 3))
        asks = [("line", 1), ("line", 2), ("line", 3)]
        self.check(piece, [1, 20, 300], [], "value", 321, asks)
        self.check(piece, [1, 20, 300, 400], [], "value", 321, asks)
        self.check(piece, [300, 20], [], "value", 320, asks)
        self.check(piece, [999], [], "value", 999, asks)
        self.check(piece, [], [], "value", 0, asks)
        self.check(piece, [5, 5, 5], [], "value", 15, asks)
        self.check(piece, [0, 0, 300], [], "value", 300, asks)

    def test_coins_one_by_one(self):
        piece = ("sum", ask("coin", 1), ("choose", ask("coin", 2), ("num", 10), ("num", 20)))
        asks = [("coin", 1), ("coin", 2)]
        for coins, number in [([1, 1], 11), ([0, 1], 10), ([1, 0], 21), ([0, 0], 20), ([1], 21), ([], 20),
                              ([1, 1, 0, 0], 11), ([0, 1, 1], 10)]:
            self.check(piece, [5], coins, "value", number, asks)

    def test_each_kind_by_its_own_row(self):
        piece = summed(ask("coin", 1), ask("line", 2), ask("coin", 3), ask("line", 4))
        asks = [("coin", 1), ("line", 2), ("coin", 3), ("line", 4)]
        self.check(piece, [10, 100], [1, 1], "value", 112, asks)
        self.check(piece, [10, 100], [], "value", 110, asks)
        self.check(piece, [], [1, 1], "value", 2, asks)
        self.check(piece, [10], [0, 1], "value", 11, asks)

    def test_what_a_hand_answers_takes_nothing_from_the_rows(self):
        piece = ("sum", hand("line", NUM, ("sum", ask("line", 1), ask("line", 2))), ask("line", 3))
        self.check(piece, [100, 200], [], "value", 114, [("line", 3)])

    def test_lines_of_any_number(self):
        for number in [0, 1, 2, 500, 998, 999]:
            self.check(ask("line", 5), [number], [], "value", number, [("line", 5)])
            self.check(ask_of("line", ask("line", 5)), [number], [], "value", 0, [("line", 5), ("line", number)])

    def test_many(self):
        piece = ask("line", 1)
        for number in range(2, 29):
            piece = ("sum", piece, ask("line", number))
        asks = [("line", number) for number in range(1, 29)]
        self.check(piece, list(range(28)), [], "value", 378, asks)
        self.check(piece, [999] * 28, [], "value", 972, asks)


class ToldTest(RunsTest):
    """Point 7, and that nothing is kept or changed."""

    PIECES = [
        NUM,
        ask("line", 5),
        ask("fail", 5),
        ("sum", ask("line", 1), ("sum", ask("coin", 2), ask("fail", 3))),
        ("hand", "line", "x", ("sum", ask_of("line", X), ask_of("coin", X)), ("sum", ask("line", 5), ask("line", 6))),
    ]

    def test_kinds_of_values(self):
        for way in WAYS:
            for piece in self.PIECES:
                told = way(piece, [5, 6], [1])
                with self.subTest(way=way.__name__, piece=piece):
                    self.assertIs(type(told), tuple)
                    self.assertEqual([type(part) for part in told], [str, int, list])
                    for one in told[2]:
                        self.assertIs(type(one), tuple)
                        self.assertEqual([type(part) for part in one], [str, int])

    def test_the_rows_stay_as_they_were(self):
        for way in WAYS:
            for piece in self.PIECES:
                for rows in [([5, 6, 7], [1, 0, 1]), ([], []), ([5], [])]:
                    lines, coins = copy.deepcopy(rows)
                    way(piece, lines, coins)
                    with self.subTest(way=way.__name__, piece=piece):
                        self.assertEqual((lines, coins), rows)

    def test_a_row_that_is_both(self):
        row = [1, 0, 1]
        for way in WAYS:
            told = way(summed(ask("coin", 1), ask("line", 2), ask("line", 3)), row, row)
            self.assertEqual(told, ("value", 2, [("coin", 1), ("line", 2), ("line", 3)]))
            self.assertEqual(row, [1, 0, 1])

    def test_a_new_list_with_each_call(self):
        for way in WAYS:
            for piece in self.PIECES:
                wanted = copy.deepcopy(way(piece, [5, 6], [1]))
                first = way(piece, [5, 6], [1])
                with self.subTest(way=way.__name__, piece=piece):
                    self.assertIsNot(first[2], way(piece, [5, 6], [1])[2])
                    first[2].append("more")
                    first[2].append("and more")
                    self.assertEqual(way(piece, [5, 6], [1]), wanted)

    def test_nothing_is_kept_from_one_run_to_the_next(self):
        for way in WAYS:
            lines, coins = [5, 6], [1]
            piece = summed(ask("line", 1), ask("line", 2), ask("coin", 3))
            with self.subTest(way=way.__name__):
                wanted = ("value", 12, [("line", 1), ("line", 2), ("coin", 3)])
                self.assertEqual(way(piece, lines, coins), wanted)
                self.assertEqual(way(ask("fail", 5), lines, coins), ("fail", 5, [("fail", 5)]))
                self.assertEqual(way(piece, lines, coins), wanted)
                lines.append(7)
                lines[0] = 100
                self.assertEqual(way(piece, lines, coins), ("value", 107, wanted[2]))


if __name__ == "__main__":
    unittest.main()
