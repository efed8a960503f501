"""Numbers and FRACTIONS in figures, of whatever length, each with just one text."""

from math import gcd

FIGURES = "0123456789"
# Pieces of so many figures at a time: Python turns no numbers of thousands of them.
PIECE = 64
UNIT = 10 ** 64


def number_text(number):
    """number, from 0, in figures."""
    if number < UNIT:
        return str(number)
    pieces = []
    left = number
    while left > 0:
        left, piece = divmod(left, UNIT)
        pieces.append(str(piece).zfill(PIECE))
    return "".join(pieces[::-1]).lstrip("0")


def number_by(word):
    """The number from 0 that word is the text of; None if it is no such text."""
    if word == "" or any([sign not in FIGURES for sign in word]):
        return None
    if word.startswith("0") and len(word) > 1:
        return None
    wide = word.zfill(len(word) + (PIECE - 1) - (len(word) - 1) % PIECE)
    out = 0
    for at in range(0, len(wide), PIECE):
        out = out * UNIT + int(wide[at:at + PIECE])
    return out


def fraction_written(value):
    """The text of the FRACTION value."""
    top, bottom = value
    ahead = "-" if top < 0 else ""
    behind = "" if bottom == 1 else "/" + number_text(bottom)
    return ahead + number_text(abs(top)) + behind


def fraction_by(word):
    """The FRACTION that word is the text of; None if it is no such text."""
    minus = word.startswith("-")
    top_word, slash, bottom_word = (word[1:] if minus else word).partition("/")
    top = number_by(top_word)
    bottom = number_by(bottom_word) if slash else 1
    if top is None or bottom is None or (minus and top == 0):
        return None
    if slash and (bottom < 2 or gcd(top, bottom) != 1):
        return None
    return (-top if minus else top), bottom


def row_written(row):
    """The words of row, a blank between two."""
    return " ".join([fraction_written(own) for own in row])


def row_by(words):
    """The ROW that words are the texts of; None if one of them is no such text."""
    row = [fraction_by(word) for word in words]
    return None if any([own is None for own in row]) else tuple(row)


def part_by(words):
    """The pair of a kind and an amount that words tell, a PART or not; None if they tell none."""
    if len(words) != 2:
        return None
    amount = fraction_by(words[1])
    return None if amount is None else (words[0], amount)
