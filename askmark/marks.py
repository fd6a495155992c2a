"""Which kinds of asks a piece can come to, told ahead of any run."""

from askmark.pieces import KINDS, places_of


def marks(piece):
    """List the kinds told of the piece, each once, in the order of texts."""
    told = kinds_of(piece)
    return [kind for kind in KINDS if kind in told]


def kinds_of(piece):
    """Tell the kinds of the piece, as the keys of a dict."""
    if piece[0] == "hand":
        return kinds_of_hand(piece)
    told = {}
    if piece[0] == "ask":
        told[piece[1]] = True
    for at in places_of(piece):
        told.update(kinds_of(piece[at]))
    return told


def kinds_of_hand(hand):
    told = kinds_of(hand[4])
    # A hand that never answers never comes to its A.
    if hand[1] in told:
        del told[hand[1]]
        # Behind the removal: A stands outside of the hand and may come to its kind.
        told.update(kinds_of(hand[3]))
    return told
