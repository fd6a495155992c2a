"""Point 2: the forms of pieces, and what is no piece."""

import inspect
import string
import unittest

from askmark import pieces
from askmark.errors import BadPiece
from askmark.pieces import KINDS, checked
from tests.places import BESIDE, FORMS, NUM, PLACES, STRANGE, refusal_of, settings

OTHER_KINDS = ["Coin", "COIN", "coins", "oin", "", " line", "lines", "fail ", "world", "coin\n", "coin,fail"]
OTHER_NUMBERS = ["5", "0", "", b"5", (5,), ("num", 5), [5], 999.0, 0.0]
OTHER_NAMES = [
    "abcdefghi", "abcdefghijklmnop", "a" * 100000, "X", "Abc", "abC", "aBc", "x1", "0", "1x", "x y", " x", "x ",
    "x\n", "\n", "x-y", "x_y", "_", "x.", "`", "{", "@", "[", "x\x00", "\xe9", "\xdf", "\xaa", "\xb5", "\u0131",
    "\u03b1", "\uff41", "\u0430", "a\u0301", "\U0001d41a",
]


class CountTest(unittest.TestCase):
    def test_the_interface(self):
        self.assertEqual(list(inspect.signature(checked).parameters), ["piece"])
        self.assertEqual(checked.__module__, "askmark.pieces")
        self.assertEqual(checked(piece=NUM), 1)

    def test_the_kinds(self):
        self.assertIs(type(KINDS), tuple)
        self.assertEqual(KINDS, ("coin", "fail", "line"))
        self.assertEqual(pieces.KINDS, tuple(sorted(KINDS)))

    def test_each_form(self):
        counted = [
            (("num", 5), 1),
            (("let", "x", NUM, ("name", "x")), 3),
            (("sum", NUM, NUM), 3),
            (("let", "x", NUM, NUM), 3),
            (("choose", NUM, NUM, NUM), 4),
            (("ask", "line", NUM), 2),
            (("hand", "fail", "x", ("name", "x"), NUM), 3),
        ]
        for piece, many in counted:
            with self.subTest(piece=piece):
                self.assertEqual(checked(piece), many)
                self.assertIs(type(checked(piece)), int)

    def test_pieces_in_pieces(self):
        ask = ("ask", "coin", ("sum", NUM, ("num", 1)))
        choose = ("choose", ask, ("name", "x"), ("ask", "fail", ("name", "x")))
        hand = ("hand", "coin", "y", ("sum", ("name", "y"), ("name", "x")), choose)
        self.assertEqual(checked(("let", "x", ask, hand)), 1 + 4 + (1 + 3 + (1 + 4 + 1 + 2)))

    def test_each_place_is_counted_with_all_within_it(self):
        for place in PLACES:
            for inner in PLACES:
                with self.subTest(place=place, inner=inner):
                    piece = PLACES[place](PLACES[inner](NUM))
                    self.assertEqual(checked(piece), BESIDE[place] + BESIDE[inner] + 1)

    def test_a_part_that_stands_at_several_places_counts_at_each(self):
        part = ("sum", NUM, NUM)
        self.assertEqual(checked(part), 3)
        self.assertEqual(checked(("sum", part, part)), 7)
        self.assertEqual(checked(("let", "x", part, part)), 7)
        self.assertEqual(checked(("choose", part, part, part)), 10)
        self.assertEqual(checked(("hand", "line", "x", part, part)), 7)
        for _ in range(9):
            part = ("sum", part, part)
        self.assertEqual(checked(part), 2 ** 11 - 1)

    def test_each_kind_in_asks_and_hands(self):
        for kind in KINDS:
            for place, put in PLACES.items():
                with self.subTest(kind=kind, place=place):
                    self.assertEqual(checked(put(("ask", kind, NUM))), BESIDE[place] + 2)
                    self.assertEqual(checked(put(("hand", kind, "x", NUM, NUM))), BESIDE[place] + 3)

    def test_the_edges_of_numbers(self):
        for number in [0, 1, 9, 10, 99, 100, 998, 999]:
            for place, put in settings():
                with self.subTest(number=number, place=place):
                    self.assertEqual(checked(put(("num", number))), checked(put(NUM)))

    def test_the_edges_of_names(self):
        for name in list(string.ascii_lowercase) + ["ab", "abcdefg", "abcdefgh", "zzzzzzzz", "num", "line"]:
            with self.subTest(name=name):
                self.assertEqual(checked(("let", name, NUM, ("name", name))), 3)
                self.assertEqual(checked(("hand", "coin", name, ("name", name), NUM)), 3)


class NoPieceTest(unittest.TestCase):
    def refused(self, piece, told=None):
        """The part is refused wherever it stands, also where every name in it is told."""
        for place, put in settings():
            with self.subTest(told, place=place):
                self.assertIs(refusal_of(put(piece)), BadPiece)
        with self.subTest(told, place="within a let"):
            self.assertIs(refusal_of(("let", "x", NUM, piece)), BadPiece)

    def test_what_is_no_tuple_of_a_form(self):
        for value in STRANGE + ["num", "x", "line", 0, 5, 999, ["sum", NUM, NUM], list(NUM)]:
            self.refused(value, repr(value))

    def test_a_first_word_that_is_none_of_the_seven(self):
        for word in STRANGE + ["nums", "Num", "nam", "number", "x", "line", "coin", "um", "handle", "letter", "NAME"]:
            for rest in [(), (5,), ("x",), (NUM, NUM), ("coin", NUM), ("x", NUM, NUM), (NUM, NUM, NUM),
                         ("line", "x", NUM, NUM)]:
                with self.subTest(word=repr(word), rest=rest):
                    self.assertIs(refusal_of((word,) + rest), BadPiece)
            self.refused((word, 5), repr(word))

    def test_a_length_that_is_too_short(self):
        for word, piece in FORMS.items():
            for length in range(1, len(piece)):
                self.refused(piece[:length], f"{word} {length}")

    def test_a_length_that_is_too_long(self):
        for word, piece in FORMS.items():
            for more in [(NUM,), (None,), ("x",), (5,), ([],), (NUM, NUM), (NUM,) * 50]:
                self.refused(piece + more, f"{word} {more}")

    def test_the_length_of_one_form_at_another(self):
        for word, piece in FORMS.items():
            for other in FORMS.values():
                if len(other) != len(piece):
                    self.refused((word,) + other[1:], f"{word} {other}")

    def test_what_is_no_kind(self):
        for kind in STRANGE + OTHER_KINDS + ["x", 0, KINDS, list(KINDS), ("coin",), NUM]:
            self.refused(("ask", kind, NUM), repr(kind))
            self.refused(("hand", kind, "x", NUM, NUM), repr(kind))

    def test_what_is_no_number(self):
        for number in STRANGE + OTHER_NUMBERS + ["x", "line", NUM, -2, 1001, -999, 2000]:
            self.refused(("num", number), repr(number))

    def test_what_is_no_name(self):
        for name in STRANGE + OTHER_NAMES + [0, 5, ("x",), ["x"], NUM]:
            told = repr(name)[:20]
            self.refused(("name", name), told)
            self.refused(("let", name, NUM, NUM), told)
            self.refused(("hand", "coin", name, NUM, NUM), told)

    def test_what_is_no_piece_in_any_place(self):
        for value in STRANGE + ["x", 5]:
            for place, put in PLACES.items():
                with self.subTest(value=repr(value), place=place):
                    self.assertIs(refusal_of(put(value)), BadPiece)


class SameAgainTest(unittest.TestCase):
    def test_what_is_handed_in_is_left_as_it_was(self):
        inner = ["num", 5, {"k": [1]}]
        word = {"num": [1]}
        for piece in [inner, ("sum", inner, NUM), ("ask", inner, NUM), (inner, 5), ("num", word), word,
                      ("let", inner, NUM, NUM), ("hand", "coin", word, NUM, NUM), ("sum", NUM, (word,))]:
            before = repr(piece)
            for _ in range(2):
                with self.subTest(piece=piece):
                    self.assertIs(refusal_of(piece), BadPiece)
                    self.assertEqual(repr(piece), before)

    def test_the_same_answer_when_asked_again(self):
        for piece in [NUM, ("let", "x", NUM, ("name", "x")), ("name", "x"), ("num", 1000)]:
            with self.subTest(piece=piece):
                self.assertEqual([refusal_of(piece)] * 3, [refusal_of(piece) for _ in range(3)])

    def test_the_kinds_stay(self):
        checked(("hand", "line", "x", NUM, ("ask", "coin", NUM)))
        refusal_of(("ask", "world", NUM))
        self.assertEqual(pieces.KINDS, ("coin", "fail", "line"))


if __name__ == "__main__":
    unittest.main()
