"""Mends: rows of copies that make reads safer, and what the copies of a BOOK are worth."""

from hintring.books import tick_at, without_deed
from hintring.deeds import refuse
from hintring.errors import CanNot
from hintring.losses import least_losses
from hintring.masks import mask_of, masks_of
from hintring.misses import first_held, masks_behind, offers_from
from hintring.pasts import mask_ahead, past_masks
from hintring.plain import are_numbers, choices, frozen, is_tuple

MOST_COPIES = 24


def chain(some):
    """The COPIES by which all of some come to hold the latest that one of them held."""
    some = frozen(some)
    up = list(zip(some, some[1:]))
    down = [(other, one) for one, other in reversed(up)]
    return tuple(up + down)


def mended(book, moment, some):
    """The BOOK with the copies of the chain of some put in at this MOMENT."""
    book, some = frozen(book), frozen(some)
    refuse(book, places=some, moments=(moment,))
    return mended_in(book, moment, some)


def mended_in(book, moment, some):
    """The same of tuples."""
    many, life, deeds = book
    tick = tick_at(book, moment)
    copies = tuple([("copy", tick, one, other) for one, other in chain(some)])
    return many, life, deeds[:moment] + copies + deeds[moment:]


def does_miss(book, lots, version):
    """Whether one of these LOTS can miss it behind all."""
    offers = offers_from(book[2], version)
    return any([first_held(offers, masks_behind(book, lot)) is None for lot in lots])


def helpers(book, some, version):
    """The ascending list of the least LOTS with which, together, some can not miss it."""
    book, some = frozen(book), frozen(some)
    refuse(book, places=some, ages=(version,))
    offers, known = offers_from(book[2], version), {}
    others = tuple([place for place in range(book[0]) if place not in some])
    found = []
    for size in range(len(others) + 1):
        for lot in choices(others, size):
            if not any([all([place in lot for place in one]) for one in found]):
                if holds_it(book, offers, known, mask_of(some + lot)):
                    found.append(lot)
    return sorted(found)


def holds_it(book, offers, known, mask):
    """Whether the LOT of this mask can not miss these writes behind all; known keeps it."""
    if mask not in known:
        known[mask] = first_held(offers, past_masks(book[2], mask, len(book[2]))) is not None
    return known[mask]


def ahead_of_copy(pair, masks):
    """The unlike LOTS from which a COPY behind all hands on to these, all as masks."""
    deed = ("copy", 0) + pair
    return sorted({mask_ahead(deed, mask) for mask in masks})


def cheapest_mend(book, lots, version, most):
    """A row of the fewest COPIES, at most so many, with which lots do not miss it; else None."""
    book, lots = frozen(book), frozen(lots)
    refuse(book, ages=(version,))
    offers, known = offers_from(book[2], version), {}
    for size in range(most + 1):
        row = mend_of(book, offers, known, masks_of(lots), size)
        if row is not None:
            return row
    return None


def mend_of(book, offers, known, masks, size):
    """A row of so many COPIES with which the LOTS of these masks do not miss it; else None."""
    if size == 0:
        return () if all([holds_it(book, offers, known, mask) for mask in masks]) else None
    for one in range(book[0]):
        for other in range(book[0]):
            if one != other:
                # What stands last is met first on the way back, so the row grows at its end.
                row = mend_of(book, offers, known, ahead_of_copy((one, other), masks), size - 1)
                if row is not None:
                    return row + ((one, other),)
    return None


def mends_it(book, lots, version, thing):
    """Whether thing is a tuple of COPIES, at most 24, with which lots do not miss it."""
    book, lots = frozen(book), frozen(lots)
    refuse(book, ages=(version,))
    if not isinstance(thing, tuple) or len(thing) > MOST_COPIES:
        return False
    if not all([is_copy(book[0], pair) for pair in thing]):
        return False
    masks = masks_of(lots)
    for pair in reversed(thing):
        masks = ahead_of_copy(pair, masks)
    offers, known = offers_from(book[2], version), {}
    return all([holds_it(book, offers, known, mask) for mask in masks])


def is_copy(many, pair):
    """Whether this is a COPY between so many PLACES."""
    if not is_tuple(pair, 2) or not are_numbers(pair):
        return False
    return pair[0] != pair[1] and all([0 <= place < many for place in pair])


def enough_at(book, some, lots, version):
    """The set of the MOMENTS at which a mend of some lets lots not miss it behind all."""
    book, some, lots = frozen(book), frozen(some), frozen(lots)
    refuse(book, places=some, ages=(version,))
    return tuple([moment for moment in range(len(book[2]) + 1)
                  if not does_miss(mended_in(book, moment, some), lots, version)])


def safe_from(book, lots, version):
    """The least MOMENT from which on lots do not miss it any more; None if they do behind all."""
    book, lots = frozen(book), frozen(lots)
    refuse(book, ages=(version,))
    many, life, deeds = book
    safe = None
    moment = len(deeds)
    # At MOMENT 0 nothing is written yet, so the walk back always ends at what misses.
    while not does_miss((many, life, deeds[:moment]), lots, version):
        safe = moment
        moment = moment - 1
    return safe


def blamed(book, some, version):
    """The set of the numbers of the copies and losses that make it missed or not."""
    book, some = frozen(book), frozen(some)
    refuse(book, places=some, ages=(version,))
    misses = does_miss(book, (some,), version)
    told = [number for number, deed in enumerate(book[2]) if deed[0] in ("copy", "lose")]
    return tuple([number for number in told if does_miss(without_deed(book, number), (some,), version) != misses])


def worth(book, some, version, number):
    """How many more losses some bear because of this copy."""
    book, some = frozen(book), frozen(some)
    refuse(book, places=some, numbers=(number,), ages=(version,))
    if book[2][number][0] != "copy":
        raise CanNot()
    return least_losses(book, some, version) - least_losses(without_deed(book, number), some, version)
