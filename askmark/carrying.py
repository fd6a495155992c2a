"""Runs by carrying on: one goes until an ask comes to the world, and is handed the answer later."""

from askmark.runs import World, added

# At which index a piece has what is worked out first in its place.
FIRST = {"sum": 1, "let": 2, "choose": 1, "ask": 2, "hand": 4}


class Run:
    """A run that waits at an ask to the world, or has ended."""

    def __init__(self, piece):
        self.ended = False
        self.kind = None
        self.number = 0
        # What waits for a number, from outside inwards: in each triple a word,
        # what it is about, and what the names stand for there.
        self._waiting = []
        self._carry(self._first_number(piece, {}))

    def go_on(self, number):
        """Go on with the answer, until the next ask to the world or the end."""
        self._carry(number)

    def _carry(self, number):
        """Hand the number to what waits for it, and go on until nothing is to be worked out."""
        following = self._hand_back(number)
        while following is not None:
            piece, told = following
            following = self._hand_back(self._first_number(piece, told))

    def _first_number(self, piece, told):
        """Tell the number that the piece comes to first; what is around it has to wait."""
        while piece[0] != "num" and piece[0] != "name":
            self._waiting.append((piece[0], piece, told))
            piece = piece[FIRST[piece[0]]]
        return piece[1] if piece[0] == "num" else told[piece[1]]

    def _hand_back(self, number):
        """Hand the number outwards until a piece is to be worked out: tell it and its names.

        None where the run waits for the world, or has ended.
        """
        while self._waiting:
            word, held, told = self._waiting.pop()
            if word == "sum":
                self._waiting.append(("added", number, None))
                return held[2], told
            if word == "let":
                return held[3], {**told, held[1]: number}
            if word == "choose":
                return (held[2] if number != 0 else held[3]), told
            if word == "ask":
                return self._ask(held[1], number)
            if word == "added":
                number = added(held, number)
            elif word == "answered":
                # The number is the answer: the hand and what stood within wait again.
                self._waiting.extend(held)
            # Else it is a hand, which comes to what its B came to.
        self._stop(True, None, number)
        return None

    def _ask(self, kind, number):
        """Tell the answer of the nearest hand and its names; None where the ask goes to the world."""
        at = self._nearest_hand(kind)
        if at is None:
            self._stop(False, kind, number)
            return None
        _, hand, told = self._waiting[at]
        within = self._waiting[at:]
        # What a hand answers with is worked out outside of it: it and all within is put aside.
        self._waiting = self._waiting[:at]
        if kind != "fail":
            self._waiting.append(("answered", within, None))
        return hand[3], {**told, hand[2]: number}

    def _nearest_hand(self, kind):
        for at in reversed(range(len(self._waiting))):
            word, held, _ = self._waiting[at]
            if word == "hand" and held[1] == kind:
                return at
        return None

    def _stop(self, ended, kind, number):
        self.ended = ended
        self.kind = kind
        self.number = number


def carried(piece, lines, coins):
    """Tell what a run tells: a word, a number and the asks that came to the world."""
    world = World(lines, coins)
    run = Run(piece)
    asks = []
    while not run.ended:
        asks.append((run.kind, run.number))
        if run.kind == "fail":
            return ("fail", run.number, asks)
        run.go_on(world.answer(run.kind))
    return ("value", run.number, asks)
