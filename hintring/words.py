"""Words of texts: numbers, sets, FAMILIES and pairs, as they are written and read."""

from hintring.families import is_family
from hintring.plain import ascends

FIGURES = "0123456789"
WIDTH = 18
# A number of one figure more than WIDTH.
WIDE = 1000000000000000000


def set_word(numbers):
    """The word of a set of numbers."""
    if len(numbers) == 0:
        return "-"
    return ",".join([str(number) for number in numbers])


def family_word(family):
    """The word of a FAMILY."""
    return "+".join([set_word(lot) for lot in family])


def pairs_word(pairs):
    """The word of pairs of numbers."""
    if len(pairs) == 0:
        return "-"
    return ",".join([f"{one}:{other}" for one, other in pairs])


def number_in(word):
    """The number that this word is; None if it is none."""
    if word == "" or not all([sign in FIGURES for sign in word]):
        return None
    if word[0] == "0" and word != "0":
        return None
    # Python itself reads only so many figures at once, so they are read part by part.
    figures = word.zfill(len(word) + -len(word) % WIDTH)
    number = 0
    for at in range(0, len(figures), WIDTH):
        number = number * WIDE + int(figures[at:at + WIDTH])
    return number


def numbers_in(words):
    """The tuple of the numbers that these words are; None if one of them is none."""
    numbers = tuple([number_in(word) for word in words])
    if None in numbers:
        return None
    return numbers


def set_in(word):
    """The set of numbers that this word is; None if it is none."""
    if word == "-":
        return ()
    numbers = numbers_in(word.split(","))
    if numbers is None or not ascends(numbers):
        return None
    return numbers


def family_in(word):
    """The FAMILY that this word is; None if it is none."""
    lots = tuple([set_in(part) for part in word.split("+")])
    if None in lots:
        return None
    many = max([place for lot in lots for place in lot], default=0) + 1
    if not is_family(lots, many):
        return None
    return lots


def pairs_in(word):
    """The ascending tuple of unlike pairs of numbers that this word is; None if it is none."""
    if word == "-":
        return ()
    pairs = tuple([numbers_in(part.split(":")) for part in word.split(",")])
    if None in pairs or not all([len(pair) == 2 for pair in pairs]) or not ascends(pairs):
        return None
    return pairs
