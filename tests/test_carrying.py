"""Point 13: runs that are carried on."""

import itertools
import unittest

from askmark.carrying import Run, carried
from askmark.pieces import KINDS
from tests.places import NUM, ask, hand, next_places, wrapped

X = ("name", "x")


class RunTest(unittest.TestCase):
    def check(self, run, ended, kind, number):
        self.assertIs(run.ended, ended)
        self.assertEqual((run.kind, run.number), (kind, number))

    def test_ended_at_once(self):
        for piece, number in [
            (("num", 0), 0),
            (("num", 999), 999),
            (("sum", ("num", 999), ("num", 2)), 1),
            (("let", "x", NUM, ("sum", X, X)), 14),
            (("choose", NUM, ("num", 1), ask("line", 2)), 1),
            (hand("line", ("num", 3), ask("line", 1)), 3),
            (hand("fail", ("num", 3), ask("fail", 1)), 3),
        ]:
            with self.subTest(piece=piece):
                run = Run(piece)
                self.check(run, True, None, number)
                self.assertIs(type(run.number), int)

    def test_waits_at_its_first_ask(self):
        for kind in KINDS:
            for place, put in next_places(kind):
                for number in [0, 5, 999]:
                    with self.subTest(kind=kind, place=place, number=number):
                        self.check(Run(put(ask(kind, number))), False, kind, number)

    def test_goes_on_until_the_next_ask_and_the_end(self):
        run = Run(("sum", ask("line", 1), ("ask", "coin", ask("line", 2))))
        self.check(run, False, "line", 1)
        self.assertIsNone(run.go_on(100))
        self.check(run, False, "line", 2)
        self.assertIsNone(run.go_on(9))
        self.check(run, False, "coin", 9)
        self.assertIsNone(run.go_on(1))
        self.check(run, True, None, 101)

    def test_each_number_as_the_answer(self):
        for kind in ["coin", "line"]:
            for number in [0, 1, 2, 500, 998, 999]:
                with self.subTest(kind=kind, number=number):
                    run = Run(("let", "x", ask(kind, 5), X))
                    run.go_on(number)
                    self.check(run, True, None, number)
                    run = Run(("sum", ("num", 500), ask(kind, 5)))
                    run.go_on(number)
                    self.check(run, True, None, (number + 500) % 1000)
                    run = Run(("choose", ask(kind, 5), ("num", 1), ("num", 2)))
                    run.go_on(number)
                    self.check(run, True, None, 2 if number == 0 else 1)

    def test_waits_at_a_fail(self):
        run = Run(ask("fail", 5))
        self.check(run, False, "fail", 5)
        run = Run(("sum", ask("line", 1), ("ask", "fail", ask("line", 2))))
        run.go_on(3)
        run.go_on(4)
        self.check(run, False, "fail", 4)

    def test_goes_on_within_hands(self):
        piece = ("hand", "line", "x", ("sum", ("ask", "line", X), ("num", 10)), ("sum", ask("line", 5), ask("line", 6)))
        run = Run(piece)
        self.check(run, False, "line", 5)
        run.go_on(100)
        self.check(run, False, "line", 6)
        run.go_on(200)
        self.check(run, True, None, 320)

    def test_a_long_way(self):
        places = ["A of a sum", "B of a hand", "B of a sum", "A of a let", "A of an ask", "A of a choose"] * 4
        run = Run(wrapped(ask("coin", 5), places))
        self.check(run, False, "coin", 5)
        # In each six places there is an ask for a line, and a choose between 7 and 7.
        for _ in range(4):
            run.go_on(0)
            self.check(run, False, "line", 7)
        run.go_on(0)
        self.check(run, True, None, 7)

    def test_what_is_listed_is_set_with_the_run(self):
        for piece in [NUM, ask("line", 1)]:
            self.assertLessEqual({"ended", "kind", "number"}, set(vars(Run(piece))))


class TurnsTest(unittest.TestCase):
    """Runs that are carried on by turns."""

    PIECE = ("hand", "line", "x", ("sum", ("ask", "line", X), ("num", 10)), (
        "let", "y", ask("line", 1), ("sum", ("name", "y"), ("sum", ask("line", 2), ask("coin", 3)))))
    ASKS = [("line", 1), ("line", 2), ("coin", 3)]

    def test_alone(self):
        run = Run(self.PIECE)
        self.assertEqual(self.carried_on(run, [100, 200, 1]), 321)

    def carried_on(self, run, answers):
        for asked, answer in zip(self.ASKS, answers):
            self.assertEqual((run.ended, run.kind, run.number), (False, *asked))
            run.go_on(answer)
        self.assertEqual((run.ended, run.kind), (True, None))
        return run.number

    def test_two_of_the_same_piece_in_each_order(self):
        for turns in set(itertools.permutations([0, 0, 0, 1, 1, 1])):
            runs = [Run(self.PIECE), Run(self.PIECE)]
            answers = [[100, 200, 1], [30, 40, 0]]
            at = [0, 0]
            for turn in turns:
                for run, asked in zip(runs, at):
                    if asked < 3:
                        self.assertEqual((run.ended, run.kind, run.number), (False, *self.ASKS[asked]))
                runs[turn].go_on(answers[turn][at[turn]])
                at[turn] += 1
            with self.subTest(turns=turns):
                self.assertEqual([(run.ended, run.kind, run.number) for run in runs],
                                 [(True, None, 321), (True, None, 90)])

    def test_two_of_different_pieces(self):
        first = Run(("sum", ask("line", 1), ask("line", 2)))
        second = Run(hand("coin", ("num", 50), ("sum", ask("line", 3), ask("coin", 4))))
        first.go_on(10)
        second.go_on(100)
        self.assertEqual((second.ended, second.kind, second.number), (True, None, 150))
        self.assertEqual((first.ended, first.kind, first.number), (False, "line", 2))
        first.go_on(5)
        self.assertEqual((first.ended, first.kind, first.number), (True, None, 15))
        self.assertEqual((second.ended, second.kind, second.number), (True, None, 150))

    def test_one_that_waits_while_others_are_made(self):
        run = Run(self.PIECE)
        run.go_on(100)
        self.assertEqual(carried(self.PIECE, [1], []), ("value", 21, [("line", 1), ("line", 2), ("coin", 3)]))
        Run(ask("fail", 9))
        self.assertEqual((run.ended, run.kind, run.number), (False, "line", 2))
        run.go_on(200)
        run.go_on(1)
        self.assertEqual((run.ended, run.kind, run.number), (True, None, 321))


if __name__ == "__main__":
    unittest.main()
