"""Points 9 and 13 for many pieces and worlds: marks that hold, and ways of making a run that agree."""

import unittest

from askmark.carrying import Run, carried
from askmark.marks import marks
from askmark.pieces import KINDS, checked
from askmark.steps import answered, by_steps, stands_at, step
from tests.direct import directly
from tests.made import FIGURES, made_pieces, made_worlds
from tests.places import NUM, ask, hand

WORLDS = made_worlds(1, 6)

# Pieces without marks, and what each comes to.
QUIET = [
    (NUM, 7),
    (("let", "x", NUM, ("sum", ("name", "x"), ("name", "x"))), 14),
    (hand("line", NUM, ("sum", ask("line", 1), ask("line", 2))), 14),
    (hand("fail", NUM, ("sum", ("num", 1), ask("fail", 2))), 7),
    (hand("line", ask("coin", 1), NUM), 7),
    (hand("coin", NUM, hand("line", ask("coin", 1), ask("line", 2))), 7),
    (hand("fail", NUM, hand("line", ask("fail", 1), ask("line", 2))), 7),
]


class MarksHoldTest(unittest.TestCase):
    """Point 9."""

    def test_a_piece_without_marks_comes_to_one_number(self):
        for piece, number in QUIET:
            self.assertEqual(marks(piece), [])
            for lines, coins in WORLDS:
                for way in [by_steps, carried]:
                    with self.subTest(piece=piece, lines=lines, coins=coins, way=way.__name__):
                        self.assertEqual(way(piece, lines, coins), ("value", number, []))

    def test_no_other_ask_comes_to_the_world(self):
        quiet = 0
        for piece in made_pieces(2, 600):
            told = marks(piece)
            quiet += not told
            for lines, coins in WORLDS:
                for way in [by_steps, carried]:
                    asks = way(piece, lines, coins)[2]
                    with self.subTest(piece=piece, way=way.__name__):
                        self.assertEqual([kind for kind, _ in asks if kind not in told], [])
        # Both sorts are among them.
        self.assertTrue(50 < quiet < 550)

    def test_rows_of_other_kinds_change_nothing(self):
        for piece in made_pieces(3, 300):
            told = marks(piece)
            for lines, coins in WORLDS:
                for other_lines, other_coins in WORLDS:
                    rows = (lines if "line" in told else other_lines, coins if "coin" in told else other_coins)
                    for way in [by_steps, carried]:
                        with self.subTest(piece=piece, way=way.__name__):
                            self.assertEqual(way(piece, lines, coins), way(piece, *rows))

    def test_rows_of_each_kind_that_is_no_mark(self):
        for piece, lines, coins, told in [
            (ask("line", 5), [8], [], ("value", 8, [("line", 5)])),
            (ask("coin", 5), [], [1], ("value", 1, [("coin", 5)])),
            (ask("fail", 5), [], [], ("fail", 5, [("fail", 5)])),
        ]:
            for other_lines, other_coins in WORLDS:
                rows = (lines or other_lines, coins or other_coins)
                for way in [by_steps, carried]:
                    with self.subTest(piece=piece, way=way.__name__):
                        self.assertEqual(way(piece, *rows), told)

    def test_steps_bring_no_new_marks(self):
        for piece in made_pieces(4, 200):
            told = marks(piece)
            after = step(piece)
            while after is not None:
                self.assertEqual([kind for kind in marks(after) if kind not in told], [], piece)
                after = step(after)


class AgreeTest(unittest.TestCase):
    """Point 13: the same is told by each way."""

    def test_many_pieces_and_worlds(self):
        seen = set()
        for piece in made_pieces(5, 1500):
            checked(piece)
            for lines, coins in WORLDS:
                told = directly(piece, lines, coins)
                seen.add((told[0], min(len(told[2]), 4)))
                with self.subTest(piece=piece, lines=lines, coins=coins):
                    self.assertEqual(by_steps(piece, lines, coins), told)
                    self.assertEqual(carried(piece, lines, coins), told)
        # Runs of both words, with few asks and with many.
        self.assertEqual(seen, {("value", many) for many in range(5)} | {("fail", many) for many in range(1, 5)})

    def test_pieces_with_texts_of_figures_by_steps(self):
        for piece in made_pieces(6, 1000, FIGURES):
            for lines, coins in WORLDS[:3]:
                with self.subTest(piece=piece, lines=lines, coins=coins):
                    self.assertEqual(by_steps(piece, lines, coins), directly(piece, lines, coins))

    def test_a_run_by_steps_can_begin_at_each_of_its_pieces(self):
        for piece in made_pieces(7, 150):
            for lines, coins in WORLDS[:3]:
                told = by_steps(piece, lines, coins)
                after = step(piece)
                while after is not None:
                    self.assertEqual(by_steps(after, lines, coins), told)
                    after = step(after)

    def test_both_stand_at_the_same_asks(self):
        for piece in made_pieces(8, 400):
            for lines, _ in WORLDS:
                self.compare(piece, lines)

    def compare(self, piece, answers):
        """Both ways with the same answers, whichever kind is asked for."""
        run = Run(piece)
        for answer in answers + [0]:
            while step(piece) is not None:
                piece = step(piece)
            waits = None if run.ended else (run.kind, run.number)
            self.assertEqual(stands_at(piece), waits)
            if run.ended:
                self.assertEqual(piece, ("num", run.number))
                return
            if run.kind == "fail":
                return
            run.go_on(answer)
            piece = answered(piece, answer)

    def test_answers_again_and_again_within_each_other(self):
        # Each hand asks further out twice for each ask that it answers.
        piece = ("sum", ask("line", 1), ask("line", 2))
        for level in range(8):
            kind, other = [("line", "coin"), ("coin", "line")][level % 2]
            twice = ("sum", ("ask", other, ("name", "x")), ("ask", other, ("num", level)))
            piece = ("hand", kind, "x", twice, piece)
        lines = list(range(600))
        told = carried(piece, lines, [])
        self.assertEqual((told[0], len(told[2])), ("value", 512))
        self.assertEqual(by_steps(piece, lines, []), told)
        self.assertEqual(directly(piece, lines, []), told)

    def test_the_kinds_of_the_tests_are_all_three(self):
        kinds = set()
        for piece in made_pieces(5, 1500):
            kinds.update(marks(piece))
        self.assertEqual(kinds, set(KINDS))


if __name__ == "__main__":
    unittest.main()
