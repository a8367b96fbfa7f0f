"""What a PAPER against a CLAIM must be, each kind by itself. parts are what stands behind the
word of the CLAIM; thing may be anything."""

from hintring.acts import owners_at, trial_book_at
from hintring.books import last
from hintring.families import shared
from hintring.hours import hours_of
from hintring.lags import hour_in
from hintring.losses import with_cut
from hintring.moves import is_losing_lot, is_short_lot
from hintring.plain import are_numbers, ascends, is_number, is_set, is_tuple
from hintring.rounds import is_fate, is_passed
from hintring.worlds import fits, is_world, tells


def does_miss(parts, thing):
    """Against "kept": whether it is a WORLD in which less is told."""
    book, some, version = parts
    return is_world(book, thing) and tells(book, thing, some, last(book)) < version


def does_tell(parts, thing):
    """Against "silent": whether it is a WORLD in which this is told."""
    book, some, version = parts
    return is_world(book, thing) and tells(book, thing, some, last(book)) == version


def does_keep(parts, thing):
    """Against "never": whether it is a WORLD that keeps the LOG."""
    book, log = parts
    return is_world(book, thing) and fits(book, thing, log)


def does_fall(parts, thing):
    """Against "rising": whether it is a WORLD in which a read tells less than one ahead of it."""
    book, asks = parts
    if not is_world(book, thing):
        return False
    told = [tells(book, thing, some, moment) for moment, some in asks]
    return any([one > other for one, other in zip(told, told[1:])])


def does_part(parts, thing):
    """Against "bears": whether it is a LOT, a cut, and a WORLD behind it in which less is told."""
    book, owners, asked, version, losses = parts
    if not is_tuple(thing, 3):
        return False
    some, cut, world = thing
    if not is_lot_of(owners, asked, some) or not is_cut(book, cut) or len(cut) > losses:
        return False
    return does_miss((with_cut(book, cut), some, version), world)


def is_lot_of(owners, many, thing):
    """Whether it is a LOT of so many of these owners."""
    return is_set(thing) and len(thing) == many and all([place in owners for place in thing])


def is_cut(book, thing):
    """Whether it is an ascending tuple of POINTS of the BOOK."""
    if not isinstance(thing, tuple) or not all([is_tuple(point, 2) and are_numbers(point) for point in thing]):
        return False
    if not all([0 <= moment <= last(book) and 0 <= place < book[0] for moment, place in thing]):
        return False
    return ascends(thing)


def does_fail(parts, thing):
    """Against "safe": whether it is a point, a LOT of its OWNERS, and a WORLD in which 0 is told."""
    store, trial = parts
    if not is_tuple(thing, 3):
        return False
    point, some, world = thing
    if not is_number(point) or not 0 <= point < store[2][0][0]:
        return False
    owners = owners_at(store, trial[3], point)
    if not is_lot_of(owners, min(trial[4], len(owners)), some):
        return False
    return does_miss((trial_book_at(store, trial, point), some, 1), world)


def does_lose(parts, thing):
    """Against "moved": whether it is a LOT that can miss what was written."""
    move, need, reads = parts
    return is_losing_lot(move, need, reads, thing)


def is_short(parts, thing):
    """Against "heirs": whether it is a short LOT."""
    return is_short_lot(parts[0], thing)


def are_apart(parts, thing):
    """Against "meet": whether they are LOTS, one of each FAMILY, that share no PLACE."""
    family, other = parts
    return is_pair_of(family, other, thing) and shared(thing[0], thing[1]) == 0


def is_pair_of(family, other, thing):
    """Whether it is a pair of a LOT of each of these FAMILIES."""
    if not is_tuple(thing, 2) or not all([is_set(lot) for lot in thing]):
        return False
    return thing[0] in family and thing[1] in other


def does_pass(parts, thing):
    """Against "joined": whether it is a FATE in which round 0 is passed over."""
    return is_fate(parts[0], thing) and is_passed(parts[0], thing)


def are_late(parts, thing):
    """Against "within": whether they are LOTS, one of each FAMILY, of which one hears too late."""
    web, family, lots, tick, ticks = parts
    if not is_pair_of(family, lots, thing):
        return False
    lot, some = thing
    return not 0 <= hour_in(hours_of(web, lot, tick), some) <= tick + ticks


PROOFS = {
    "kept": does_miss, "silent": does_tell, "never": does_keep, "rising": does_fall, "bears": does_part,
    "safe": does_fail, "moved": does_lose, "heirs": is_short, "meet": are_apart, "joined": does_pass,
    "within": are_late}


def is_proof(claim, thing):
    """Whether thing is a PAPER against this CLAIM."""
    action = PROOFS[claim[0]]
    return action(claim[1:], thing)
