"""What several tests share: good pieces, wrong values, and the places where a piece may stand."""

from askmark.pieces import KINDS, checked

NUM = ("num", 7)

# Each place where a piece may stand right within another one, as a function
# that puts a piece there. None of them tells the names that the tests look for.
PLACES = {
    "A of a sum": lambda part: ("sum", part, NUM),
    "B of a sum": lambda part: ("sum", NUM, part),
    "A of a let": lambda part: ("let", "told", part, NUM),
    "B of a let": lambda part: ("let", "told", NUM, part),
    "A of a choose": lambda part: ("choose", part, NUM, NUM),
    "B of a choose": lambda part: ("choose", NUM, part, NUM),
    "C of a choose": lambda part: ("choose", NUM, NUM, part),
    "A of an ask": lambda part: ("ask", "line", part),
    "A of a hand": lambda part: ("hand", "coin", "told", part, NUM),
    "B of a hand": lambda part: ("hand", "fail", "told", NUM, part),
}

# How many pieces each place brings along.
BESIDE = {
    "A of a sum": 2,
    "B of a sum": 2,
    "A of a let": 2,
    "B of a let": 2,
    "A of a choose": 3,
    "B of a choose": 3,
    "C of a choose": 3,
    "A of an ask": 1,
    "A of a hand": 2,
    "B of a hand": 2,
}

# One good piece of each form that stands on its own.
FORMS = {
    "num": ("num", 5),
    "name": ("name", "told"),
    "sum": ("sum", NUM, NUM),
    "let": ("let", "told", NUM, NUM),
    "choose": ("choose", NUM, NUM, NUM),
    "ask": ("ask", "coin", NUM),
    "hand": ("hand", "line", "told", NUM, NUM),
}


class Hostile:
    """A value at which whatever is asked of it fails."""

    def fail(self, *rest):
        raise ZeroDivisionError("asked")

    __eq__ = __ne__ = __lt__ = __le__ = __gt__ = __ge__ = fail
    __hash__ = __len__ = __iter__ = __getitem__ = __bool__ = fail
    __contains__ = __int__ = __index__ = __str__ = fail
    __class__ = property(fail)

    def __repr__(self):
        return "Hostile()"


class HostileText(str):
    """A text that fails where it is compared or looked up."""

    def fail(self, *rest):
        raise ZeroDivisionError("asked")

    __eq__ = __ne__ = __lt__ = __le__ = __gt__ = __ge__ = fail
    __hash__ = __len__ = __iter__ = __getitem__ = __contains__ = fail


class HostileTuple(tuple):
    """A tuple that fails where it is measured or read."""

    def fail(self, *rest):
        raise ZeroDivisionError("asked")

    __eq__ = __hash__ = __len__ = __iter__ = __getitem__ = __bool__ = fail

    def __repr__(self):
        return "HostileTuple()"


class HostileNumber(int):
    """A number that fails where it is compared."""

    def fail(self, *rest):
        raise ZeroDivisionError("asked")

    __eq__ = __ne__ = __lt__ = __le__ = __gt__ = __ge__ = __hash__ = __bool__ = fail


# Values that are no piece, no first word, no kind, no number and no name.
STRANGE = [
    None, True, False, Ellipsis, NotImplemented, -1, 1000, 10 ** 40, -(10 ** 40),
    0.0, 5.0, 2.5, float("nan"), float("inf"), 1j,
    "", " ", "Line", "LINES", "line coin", "x1", "9", "coinandline", "line\n", "num ", "\ud800",
    b"", b"num", b"x", b"coin", bytearray(b"num"), memoryview(b"num"),
    [], ["num", 5], ["num"], ["x"], [[]], {}, {"num": 5}, {"x": 1}, {1: {}},
    set(), {"num"}, frozenset(), frozenset(["x"]), range(3), iter("ab"),
    (), ((),), (None,), ([],), ({},), (5, 5), (("num", 5),), (["num"], 5), ({"num": 1}, 5),
    object(), object, len, int, lambda: 5, ValueError("x"),
    Hostile(), HostileText("num"), HostileText("x"), HostileText("coin"),
    HostileTuple(("num", 5)), HostileNumber(5),
]


def wrapped(piece, places):
    """The piece, put at the first of the places, that at the second, and so on."""
    for place in places:
        piece = PLACES[place](piece)
    return piece


def tower(place, levels):
    """A piece so many levels high that has the same place within itself again and again."""
    return wrapped(NUM, [place] * (levels - 1))


def settings():
    """Each setting in which a part may stand: on its own, right within, deep within and lowest."""
    yield "alone", lambda part: part
    for place in PLACES:
        yield place, PLACES[place]
        yield place + ", deep", deep_within(place)
        yield place + ", lowest", lowest_within(place)


def deep_within(place):
    return lambda part: wrapped(part, [place, "B of a hand", "A of an ask", "A of a let", "C of a choose"])


def lowest_within(place):
    return lambda part: wrapped(part, [place] + ["B of a sum"] * 28)


def refusal_of(piece):
    """The class of the error that comes out, or the count if none does."""
    try:
        return checked(piece)
    except Exception as error:
        return type(error)


def ask(kind, number):
    return ("ask", kind, ("num", number))


def hand(kind, answer, body, name="told"):
    return ("hand", kind, name, answer, body)


def next_places(kind):
    """The places at which a part is next, each with what it is called. No hand among them is for this kind."""
    yield "alone", lambda part: part
    for place in ["A of a sum", "B of a sum", "A of a let", "A of a choose", "A of an ask"]:
        yield place, PLACES[place]
    yield "A of a sum, ahead of an ask", lambda part: ("sum", part, ask("coin", 8))
    for other in KINDS:
        yield f"A of an ask for {other}", lambda part, other=other: ("ask", other, part)
        if other != kind:
            yield f"B of a hand for {other}", lambda part, other=other: hand(other, NUM, part)
            yield f"B of a hand for {other} that asks", (
                lambda part, other=other: hand(other, ask(kind, 9), part))
