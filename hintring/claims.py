"""Shapes of CLAIMS: for each word what must stand behind it."""

from hintring.books import is_book, versions
from hintring.families import is_family
from hintring.hours import is_web
from hintring.logs import is_log
from hintring.moves import is_move
from hintring.plain import is_lot, is_number, is_tuple
from hintring.rounds import is_plan
from hintring.store import is_store, is_trial

MOST_TOLD_PLACES = 6
MOST_MEETING_PLACES = 8


def is_from(value, least):
    """Whether it is a number from this one on."""
    return is_number(value) and value >= least


def is_kept_claim(parts):
    """Whether these are a BOOK, a LOT, and a number from 1."""
    if not is_tuple(parts, 3) or not is_book(parts[0]):
        return False
    book, some, version = parts
    return is_lot(some, book[0]) and is_from(version, 1)


def is_silent_claim(parts):
    """Whether these are a BOOK of few PLACES, a LOT, and a VERSION of the BOOK or 0."""
    if not is_tuple(parts, 3) or not is_book(parts[0]):
        return False
    book, some, version = parts
    if book[0] > MOST_TOLD_PLACES or not is_lot(some, book[0]) or not is_number(version):
        return False
    return version == 0 or version in versions(book)


def is_never_claim(parts):
    """Whether these are a BOOK and a LOG of it."""
    return is_tuple(parts, 2) and is_book(parts[0]) and is_log(parts[0], parts[1])


def is_rising_claim(parts):
    """Whether these are a BOOK and asks of it."""
    if not is_tuple(parts, 2) or not is_book(parts[0]) or not isinstance(parts[1], tuple):
        return False
    book, asks = parts
    # An ask is like an entry of a LOG that tells nothing.
    return all([is_tuple(ask, 2) for ask in asks]) and is_log(book, tuple([ask + (0,) for ask in asks]))


def is_bears_claim(parts):
    """Whether these are a BOOK, owners, how many are asked, a number from 1, and losses."""
    if not is_tuple(parts, 5) or not is_book(parts[0]):
        return False
    book, owners, asked, version, losses = parts
    if not is_lot(owners, book[0]) or not is_from(asked, 1) or asked > len(owners):
        return False
    return is_from(version, 1) and is_from(losses, 0)


def is_safe_claim(parts):
    """Whether these are a STORE and a TRIAL of it."""
    return is_tuple(parts, 2) and is_store(parts[0]) and is_trial(parts[0], parts[1])


def is_moved_claim(parts):
    """Whether these are a MOVE, and numbers of PLACES that it has."""
    if not is_tuple(parts, 3) or not is_move(parts[0]):
        return False
    (old, new, _), need, reads = parts
    return is_from(need, 1) and need <= len(old) and is_from(reads, 1) and reads <= len(new)


def is_heirs_claim(parts):
    """Whether this is a MOVE."""
    return is_tuple(parts, 1) and is_move(parts[0])


def is_meet_claim(parts):
    """Whether these are two FAMILIES of PLACES below 8."""
    return is_tuple(parts, 2) and all([is_family(family, MOST_MEETING_PLACES) for family in parts])


def is_joined_claim(parts):
    """Whether this is a PLAN."""
    return is_tuple(parts, 1) and is_plan(parts[0])


def is_within_claim(parts):
    """Whether these are a WEB, two FAMILIES of its PLACES, a tick, and how many ticks."""
    if not is_tuple(parts, 5) or not is_web(parts[0]):
        return False
    web, family, lots, tick, ticks = parts
    return all([is_family(one, web[0]) for one in (family, lots)]) and is_from(tick, 0) and is_from(ticks, 0)


SHAPES = {
    "kept": is_kept_claim, "silent": is_silent_claim, "never": is_never_claim, "rising": is_rising_claim,
    "bears": is_bears_claim, "safe": is_safe_claim, "moved": is_moved_claim, "heirs": is_heirs_claim,
    "meet": is_meet_claim, "joined": is_joined_claim, "within": is_within_claim}


def is_shaped(thing):
    """Whether thing is a CLAIM."""
    if not isinstance(thing, tuple) or len(thing) == 0 or not isinstance(thing[0], str) or thing[0] not in SHAPES:
        return False
    action = SHAPES[thing[0]]
    return action(thing[1:])
