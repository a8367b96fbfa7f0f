"""PAPERS against CLAIMS: how each kind is found. parts are what stands behind the word."""

from hintring.deeds import writes_from
from hintring.families import apart
from hintring.instead import tell_world
from hintring.lags import lags_of
from hintring.logs import falling_world, log_world
from hintring.losses import cut_below, with_cut
from hintring.misses import miss_world
from hintring.moves import losing_lot, short_lot
from hintring.rounds import pass_fate
from hintring.store import weak_point
from hintring.worlds import least_world


def miss_paper(parts):
    """Against "kept"."""
    book, some, version = parts
    return miss_world(book, some, version)


def tell_paper(parts):
    """Against "silent"."""
    book, some, version = parts
    return tell_world(book, some, version)


def log_paper(parts):
    """Against "never"."""
    book, log = parts
    return log_world(book, log)


def falling_paper(parts):
    """Against "rising"."""
    book, asks = parts
    return falling_world(book, asks)


def cut_paper(parts):
    """Against "bears"."""
    book, owners, asked, version, losses = parts
    found = cut_below(book, owners, asked, version, losses)
    if found is None:
        return None
    some, takers, cut = found
    parted = with_cut(book, cut)
    world = list(least_world(parted))
    for number, lot in zip(writes_from(parted[2], version), takers):
        world[number] = (lot, ())
    return some, cut, tuple(world)


def weak_paper(parts):
    """Against "safe"."""
    store, trial = parts
    return weak_point(store, trial)


def losing_paper(parts):
    """Against "moved"."""
    move, need, reads = parts
    return losing_lot(move, need, reads)


def short_paper(parts):
    """Against "heirs"."""
    return short_lot(parts[0])


def apart_paper(parts):
    """Against "meet"."""
    family, other = parts
    return apart(family, other)


def pass_paper(parts):
    """Against "joined"."""
    return pass_fate(parts[0])


def late_paper(parts):
    """Against "within"."""
    web, family, lots, tick, ticks = parts
    for told, lot, some in lags_of(web, family, lots, tick):
        if not 0 <= told <= ticks:
            return lot, some
    return None


FINDERS = {
    "kept": miss_paper, "silent": tell_paper, "never": log_paper, "rising": falling_paper, "bears": cut_paper,
    "safe": weak_paper, "moved": losing_paper, "heirs": short_paper, "meet": apart_paper, "joined": pass_paper,
    "within": late_paper}


def found_paper(claim):
    """A PAPER against this CLAIM; None if it stands."""
    action = FINDERS[claim[0]]
    return action(claim[1:])
