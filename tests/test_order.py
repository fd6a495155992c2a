"""Of several things that are wrong the first is refused: a piece ahead of those within it, these from the left."""

import unittest

from askmark.errors import BadName, BadPiece, TooTall
from tests.places import NUM, PLACES, refusal_of, tower, wrapped

# For each refusal, parts that are refused with it where no name x is told; the
# tall ones from level 2 on.
WRONG = {
    BadPiece: [None, [], ("num", 1000), ("sum", NUM), ("ask", "world", NUM), ("let", "X", NUM, NUM)],
    BadName: [("name", "x"), ("ask", "coin", ("name", "x")), ("let", "x", ("name", "x"), NUM)],
    TooTall: [tower("B of a sum", 30), tower("A of an ask", 31), tower("B of a hand", 200)],
}

# Each two places beside each other, the left one first.
BESIDE_EACH_OTHER = {
    "sum": lambda left, right: ("sum", left, right),
    "let": lambda left, right: ("let", "y", left, right),
    "choose A B": lambda left, right: ("choose", left, right, NUM),
    "choose A C": lambda left, right: ("choose", left, NUM, right),
    "choose B C": lambda left, right: ("choose", NUM, left, right),
    "hand": lambda left, right: ("hand", "line", "y", left, right),
}

DEEPER = ["A of a hand", "B of a choose", "A of a sum"]


class FromTheLeftTest(unittest.TestCase):
    def each_pair(self):
        for first in WRONG:
            for second in WRONG:
                for left in WRONG[first]:
                    for right in WRONG[second]:
                        yield first, second, left, right

    def test_each_pair_beside_each_other(self):
        for first, second, left, right in self.each_pair():
            for name, beside in BESIDE_EACH_OTHER.items():
                with self.subTest(beside=name, first=first, second=second):
                    self.assertIs(refusal_of(beside(left, right)), first)

    def test_the_left_ones_depth_comes_ahead_of_the_right_one(self):
        for first, second, left, right in self.each_pair():
            for name, beside in BESIDE_EACH_OTHER.items():
                with self.subTest(beside=name, first=first, second=second):
                    self.assertIs(refusal_of(beside(wrapped(left, DEEPER), right)), first)
                    self.assertIs(refusal_of(beside(left, wrapped(right, DEEPER))), first)

    def test_each_pair_deep_within(self):
        for first, second, left, right in self.each_pair():
            for name, beside in BESIDE_EACH_OTHER.items():
                for place in PLACES:
                    with self.subTest(beside=name, place=place, first=first, second=second):
                        self.assertIs(refusal_of(PLACES[place](beside(left, right))), first)

    def test_the_left_one_good(self):
        for refusal, parts in WRONG.items():
            for part in parts:
                for name, beside in BESIDE_EACH_OTHER.items():
                    with self.subTest(beside=name, refusal=refusal):
                        self.assertIs(refusal_of(beside(NUM, part)), refusal)
                        self.assertIs(refusal_of(beside(part, NUM)), refusal)

    def test_three_of_a_choose(self):
        tall, untold, strange = WRONG[TooTall][0], WRONG[BadName][0], WRONG[BadPiece][0]
        self.assertIs(refusal_of(("choose", tall, untold, strange)), TooTall)
        self.assertIs(refusal_of(("choose", untold, strange, tall)), BadName)
        self.assertIs(refusal_of(("choose", strange, tall, untold)), BadPiece)


class PieceAheadOfThoseWithinTest(unittest.TestCase):
    def test_a_wrong_piece_ahead_of_what_is_wrong_within(self):
        for refusal, parts in WRONG.items():
            for part in parts:
                for piece in [
                    ("total", part, part), (None, part), ([], part, part), (part,), (part, part),
                    ("num", part), ("name", part),
                    ("sum", part), ("sum", part, part, part),
                    ("let", part, part, part), ("let", "X", part, NUM), ("let", "x", part),
                    ("let", "x", part, NUM, NUM), ("choose", part, part), ("choose", part, NUM, NUM, NUM),
                    ("ask", "world", part), ("ask", part), ("ask", "line", part, part),
                    ("hand", "world", "x", part, NUM), ("hand", "line", "X", part, part),
                    ("hand", "line", "x", part), ("hand", "line", "x", part, part, part),
                ]:
                    with self.subTest(within=refusal):
                        self.assertIs(refusal_of(piece), BadPiece)
                        self.assertIs(refusal_of(("sum", NUM, piece)), BadPiece)

    def test_too_deep_ahead_of_what_is_wrong_there_and_within(self):
        for refusal, parts in WRONG.items():
            for part in parts:
                for place in PLACES:
                    with self.subTest(within=refusal, place=place):
                        self.assertIs(refusal_of(wrapped(part, [place] * 30)), TooTall)
                        self.assertIs(refusal_of(wrapped(("ask", "world", part), [place] * 30)), TooTall)

    def test_wrong_at_level_thirty_ahead_of_too_deep_within(self):
        for place in PLACES:
            with self.subTest(place=place):
                self.assertIs(refusal_of(wrapped(("ask", "world", NUM), [place] * 29)), BadPiece)
                self.assertIs(refusal_of(wrapped(("name", "x"), [place] * 29)), BadName)
                self.assertIs(refusal_of(wrapped(("let", "X", NUM, NUM), [place] * 29)), BadPiece)
                self.assertIs(refusal_of(wrapped(("ask", "line", NUM), [place] * 29)), TooTall)


if __name__ == "__main__":
    unittest.main()
