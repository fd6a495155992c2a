"""Which values are good pieces."""

from askmark.errors import BadName, BadPiece, TooTall

KINDS = ("coin", "fail", "line")

LARGEST_NUMBER = 999
LONGEST_NAME = 8
DEEPEST_LEVEL = 30

# What stands behind each first word, from the left.
FORMS = {
    "num": ("number",),
    "name": ("name",),
    "sum": ("piece", "piece"),
    "let": ("name", "piece", "piece"),
    "choose": ("piece", "piece", "piece"),
    "ask": ("kind", "piece"),
    "hand": ("kind", "name", "piece", "piece"),
}


def checked(piece):
    """Tell how many pieces there are in all, or refuse the first thing that is wrong."""
    return checked_at(piece, 1, ())


def checked_at(piece, level, told):
    """Check a piece that stands at this level, where these names are told."""
    # Ahead of the form: what stands too deep is too tall, even if it is no piece.
    if level > DEEPEST_LEVEL:
        raise TooTall(f"a piece stands at level {level}")
    check_form(piece)
    if piece[0] == "name" and piece[1] not in told:
        raise BadName(f"no let or hand tells the name {piece[1]}")
    many = 1
    for at in places_of(piece):
        name = told_at(piece, at)
        names = told if name is None else told + (name,)
        many += checked_at(piece[at], level + 1, names)
    return many


def check_form(piece):
    """Refuse what is wrong at the piece itself; the pieces within it are not looked at."""
    # Wrong values are not shown in a refusal: showing one could itself fail.
    if type(piece) is not tuple or len(piece) == 0:
        raise BadPiece("a piece is a tuple that begins with a word")
    form = form_of(piece[0])
    if form is None:
        raise BadPiece("the first word is none of the seven")
    if len(piece) != 1 + len(form):
        raise BadPiece(f"a {piece[0]} has {len(form)} behind its first word")
    for wanted, part in zip(form, piece[1:]):
        if not fits(wanted, part):
            raise BadPiece(f"no {wanted} stands where a {piece[0]} has one")


def form_of(word):
    """Tell what stands behind a first word; None of what is no such word."""
    # A list or a dict may stand here: it must not come to the table as a key.
    if type(word) is not str:
        return None
    return FORMS.get(word)


def fits(wanted, part):
    """Tell whether the part is what is wanted; pieces are checked one level deeper."""
    if wanted == "number":
        return is_number(part)
    if wanted == "name":
        return is_name(part)
    if wanted == "kind":
        return is_kind(part)
    return True


# The three below ask for the exact class: True is of a class under int, and an
# object of a class under str or tuple could fail with an error of its own.


def is_number(value):
    return type(value) is int and 0 <= value <= LARGEST_NUMBER


def is_name(value):
    if type(value) is not str or not 1 <= len(value) <= LONGEST_NAME:
        return False
    # Not by isalpha and islower, which hold for letters beyond a to z, too.
    return all(["a" <= letter <= "z" for letter in value])


def is_kind(value):
    return type(value) is str and value in KINDS


def places_of(piece):
    """List the indexes at which pieces stand right within a piece of good form."""
    return [at for at, wanted in enumerate(FORMS[piece[0]], start=1) if wanted == "piece"]


def told_at(piece, at):
    """Tell the name that a piece tells in its part at this index; None where it tells none."""
    # B of a let, A of a hand.
    if piece[0] == "let" and at == 3:
        return piece[1]
    if piece[0] == "hand" and at == 3:
        return piece[2]
    return None
