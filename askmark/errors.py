"""The refusals."""


class AskError(ValueError):
    """Any refusal."""


class BadPiece(AskError):
    """What is no piece of one of the seven forms."""


class BadName(AskError):
    """A name that no let or hand around it tells."""


class TooTall(AskError):
    """A piece deeper than the deepest level allowed."""
