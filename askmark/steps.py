"""Runs by steps, each of which makes a piece of a piece."""

from askmark.pieces import FORMS, places_of, told_at
from askmark.runs import World, added

# At which indexes a piece has what is worked out in its place, from the left.
WORKED_OUT = {
    "num": (),
    "name": (),
    "sum": (1, 2),
    "let": (2,),
    "choose": (1,),
    "ask": (2,),
    "hand": (4,),
}


def put_in(piece, name, number):
    """Put the num in the place of each such name that nothing within the piece tells."""
    if piece[0] == "name" and piece[1] == name:
        return ("num", number)
    whole = list(piece)
    for at in places_of(piece):
        if told_at(piece, at) != name:
            whole[at] = put_in(piece[at], name, number)
    return tuple(whole)


def stands_at(piece):
    """Tell the kind and number of the ask to the world at which the piece stands, or None."""
    around, found = way_to_next(piece)
    if found[0] != "ask" or nearest_hand(around, found[1]) is not None:
        return None
    return (found[1], found[2][1])


def step(piece):
    """Make one step; None of a num, and where the piece stands at an ask to the world."""
    around, found = way_to_next(piece)
    if found[0] == "num":
        return None
    if found[0] != "ask":
        return put_back(around, worked_out(found))
    at = nearest_hand(around, found[1])
    if at is None:
        return None
    return put_back(around[:at], answered_by_hand(around[at:], found))


def answered(piece, number):
    """Put the num in the place of the ask to the world at which the piece stands."""
    around, _ = way_to_next(piece)
    return put_back(around, ("num", number))


def by_steps(piece, lines, coins):
    """Tell what a run tells: a word, a number and the asks that came to the world."""
    world = World(lines, coins)
    asks = []
    piece = stepped(piece)
    while piece[0] != "num":
        kind, number = stands_at(piece)
        asks.append((kind, number))
        if kind == "fail":
            return ("fail", number, asks)
        piece = stepped(answered(piece, world.answer(kind)))
    return ("value", piece[1], asks)


def stepped(piece):
    """Make steps until there is a num or an ask to the world."""
    after = step(piece)
    while after is not None:
        piece = after
        after = step(piece)
    return piece


def way_to_next(piece):
    """Tell the pieces around what is next, from outside inwards, and what is next.

    Each piece around stands in a pair with the index at which the way goes on.
    """
    around = []
    at = next_at(piece)
    while at is not None:
        around.append((piece, at))
        piece = piece[at]
        at = next_at(piece)
    return around, piece


def next_at(piece):
    """Tell the index of the part that has what is next; None where it is the piece itself."""
    for at in WORKED_OUT[piece[0]]:
        if piece[at][0] != "num":
            return at
    return None


def put_back(around, piece):
    """Put the piece where the way through the pieces around it ends."""
    for whole, at in reversed(around):
        piece = whole[:at] + (piece,) + whole[at + 1:]
    return piece


def worked_out(piece):
    """Make the step of a piece that is next and no ask."""
    if piece[0] == "sum":
        return ("num", added(piece[1][1], piece[2][1]))
    if piece[0] == "let":
        return put_in(piece[3], piece[1], piece[2][1])
    if piece[0] == "choose":
        return piece[2] if piece[1][1] != 0 else piece[3]
    # A hand round a num.
    return piece[4]


def nearest_hand(around, kind):
    """Tell the index of the nearest hand of this kind, from within outwards, or None."""
    # The way goes through B of each hand: one in whose A the ask stands is not on it.
    for at in reversed(range(len(around))):
        whole = around[at][0]
        if whole[0] == "hand" and whole[1] == kind:
            return at
    return None


def answered_by_hand(around, ask):
    """Tell what the hand that answers becomes; it is the first of the pieces around the ask."""
    hand = around[0][0]
    answer = put_in(hand[3], hand[2], ask[2][1])
    if ask[1] == "fail":
        return answer
    name = free_name(hand)
    return ("let", name, answer, put_back(around, ("name", name)))


def free_name(piece):
    """Tell the first text of figures that stands nowhere in the piece as a name."""
    taken = names_in(piece)
    number = 0
    while str(number) in taken:
        number += 1
    return str(number)


def names_in(piece):
    """Tell all names that stand in the piece, told or telling, as the keys of a dict."""
    names = {}
    waiting = [piece]
    while waiting:
        whole = waiting.pop()
        for wanted, part in zip(FORMS[whole[0]], whole[1:]):
            if wanted == "name":
                names[part] = True
            elif wanted == "piece":
                waiting.append(part)
    return names
