"""Many good pieces and worlds, the same ones each time."""

import random

from askmark.pieces import KINDS

NUMBERS = [0, 0, 1, 2, 7, 500, 998, 999]
NAMES = ["x", "y", "z", "line"]
FIGURES = ["0", "1", "2", "x"]


def made_piece(chance, levels, told=(), names=NAMES):
    """A piece at most so many levels high, in which each name is told."""
    if levels == 1 or chance.random() < 0.08:
        if told and chance.random() < 0.7:
            return ("name", chance.choice(told))
        return ("num", chance.choice(NUMBERS))

    def part(*more):
        return made_piece(chance, levels - 1, told + more, names)

    word = chance.choice(["sum", "let", "choose", "ask", "ask", "hand", "hand", "hand"])
    name = chance.choice(names)
    kind = chance.choice(KINDS)
    if word == "sum":
        return ("sum", part(), part())
    if word == "let":
        return ("let", name, part(), part(name))
    if word == "choose":
        return ("choose", part(), part(), part())
    if word == "ask":
        return ("ask", kind, part())
    return ("hand", kind, name, part(name), part())


def made_pieces(seed, many, names=NAMES):
    chance = random.Random(seed)
    for _ in range(many):
        yield made_piece(chance, chance.randint(2, 8), (), names)


def made_worlds(seed, many):
    """Worlds, each a row of lines and one of coins; the first one is empty."""
    chance = random.Random(seed)
    worlds = [([], [])]
    while len(worlds) < many:
        lines = [chance.choice(NUMBERS) for _ in range(chance.randint(0, 6))]
        coins = [chance.randint(0, 1) for _ in range(chance.randint(0, 6))]
        worlds.append((lines, coins))
    return worlds
