"""Losses that no DEED tells: how many of them a read bears, shown by trails and cuts."""

from hintring.deeds import refuse, writes_from
from hintring.errors import NoMoment, NoPlace, TooMany, Unfit
from hintring.flows import disjoint_trails
from hintring.masks import has_place, mask_of, masks_of
from hintring.pasts import mask_behind
from hintring.plain import choices, frozen

MOST_CHOICES = 500


def refuse_takers(book, takers, version):
    """Raises Unfit unless there is one LOT for each write from version."""
    if len(takers) != len(writes_from(book[2], version)):
        raise Unfit()


def offers_of(book, takers, version):
    """For the number of each write from version its one LOT, as a mask, in a list."""
    return {number: [mask_of(lot)] for number, lot in zip(writes_from(book[2], version), takers)}


def trails_apart(book, takers, some, version):
    """As many trails as can be, apart from one another, ascending."""
    book, takers, some = frozen(book), frozen(takers), frozen(some)
    refuse(book, places=some, ages=(version,))
    refuse_takers(book, takers, version)
    starts = [(number + 1, place) for number, lot in zip(writes_from(book[2], version), takers) for place in lot]
    return disjoint_trails(book, starts, some)


def least_cut(book, takers, some, version):
    """A cut of the fewest POINTS that parts takers from some."""
    book, takers, some = frozen(book), frozen(takers), frozen(some)
    refuse(book, places=some, ages=(version,))
    refuse_takers(book, takers, version)
    return cut_to(cut_layers(book, offers_of(book, takers, version)), some)[1]


def is_parted(book, takers, some, version, cut):
    """Whether each trail has a POINT of the cut."""
    book, takers, some, cut = frozen(book), frozen(takers), frozen(some), frozen(cut)
    refuse(book, places=some, ages=(version,))
    refuse_cut(book, cut)
    refuse_takers(book, takers, version)
    offers = offers_of(book, takers, version)
    mask = 0
    for moment in range(1, len(book[2]) + 1):
        mask = mask_behind(book[2][moment - 1], mask) | offers.get(moment - 1, [0])[0]
        for place in [point[1] for point in cut if point[0] == moment]:
            mask = mask & ~(1 << place)
    return mask & mask_of(some) == 0


def refuse_cut(book, cut):
    """Raises NoPlace or NoMoment for the first POINT that has a number that is none."""
    for moment, place in cut:
        if not 0 <= place < book[0]:
            raise NoPlace(place)
        if not 0 <= moment <= len(book[2]):
            raise NoMoment(moment)


def with_cut(book, cut):
    """The BOOK with a loss more for each POINT of the cut."""
    book, cut = frozen(book), frozen(cut)
    refuse_cut(book, cut)
    many, life, deeds = book
    fresh = []
    for moment in range(len(deeds) + 1):
        tick = deeds[moment - 1][1] if moment > 0 else 0
        fresh = fresh + [("lose", tick, place) for time, place in cut if time == moment]
        fresh = fresh + list(deeds[moment:moment + 1])
    return many, life, tuple(fresh)


def cut_layers(book, offers):
    """For each MOMENT what the PLACES may be, as a mask, that hold one of these writes or
    something later behind a cut, each with (POINTS of the cut so far, LOTS that took so far);
    the least such pair of the fewest POINTS. offers has the LOTS of each write, as masks."""
    layer = {0: (0, (), ())}
    for number, deed in enumerate(book[2]):
        found = {}
        for mask, (count, points, lots) in layer.items():
            if number in offers:
                for at, lot in enumerate(offers[number]):
                    keep_least(found, mask | lot, (count, points, lots + (at,)))
            else:
                keep_least(found, mask_behind(deed, mask), (count, points, lots))
        layer = with_losses(book[0], number + 1, found)
    return layer


def keep_least(found, mask, told):
    """Keeps in found the least that is told for this mask."""
    if mask not in found or told < found[mask]:
        found[mask] = told


def with_losses(many, moment, layer):
    """A layer and what is made of it by POINTS of this MOMENT, one PLACE behind another."""
    found = layer
    for place in range(many):
        grown = {}
        for mask, told in found.items():
            keep_least(grown, mask, told)
            if has_place(mask, place):
                count, points, lots = told
                keep_least(grown, mask & ~(1 << place), (count + 1, points + ((moment, place),), lots))
        found = grown
    return found


def cut_to(layer, some):
    """The least of a last layer with which some hold nothing of it: (how many POINTS, the
    POINTS, the positions of the LOTS that took)."""
    mask = mask_of(some)
    return min([layer[held] for held in layer if held & mask == 0])


def family_offers(book, version):
    """For the number of each write from version the LOTS of its family, as masks."""
    return {number: masks_of(book[2][number][4]) for number in writes_from(book[2], version)}


def refuse_many(offers):
    """Raises TooMany if these writes can be taken in too many ways."""
    ways = 1
    for number in offers:
        ways = ways * len(offers[number])
    if ways > MOST_CHOICES:
        raise TooMany()


def least_losses(book, some, version):
    """The least number of POINTS in a cut with which some can miss it."""
    book, some = frozen(book), frozen(some)
    refuse(book, places=some, ages=(version,))
    offers = family_offers(book, version)
    refuse_many(offers)
    return cut_to(cut_layers(book, offers), some)[0]


def worst_cut(book, some, version):
    """A pair (takers, cut) that shows with how few POINTS some can miss it."""
    book, some = frozen(book), frozen(some)
    refuse(book, places=some, ages=(version,))
    offers = family_offers(book, version)
    refuse_many(offers)
    _, points, lots = cut_to(cut_layers(book, offers), some)
    return takers_at(book, offers, lots), points


def takers_at(book, offers, lots):
    """The LOTS at these positions of the families of these writes."""
    return tuple([book[2][number][4][at] for number, at in zip(sorted(offers), lots)])


def cut_below(book, owners, asked, version, losses):
    """For the first LOT of so many owners that can miss it behind a cut of at most so many POINTS
    a triple (lot, takers, cut) that shows it; None if there is none."""
    offers = family_offers(book, version)
    refuse_many(offers)
    layer = cut_layers(book, offers)
    for some in choices(owners, asked):
        count, points, lots = cut_to(layer, some)
        if count <= losses:
            return some, takers_at(book, offers, lots), points
    return None


def losses_borne(book, owners, asked, version):
    """The greatest number of POINTS with which no LOT of so many owners can miss it; -1 if one
    can as it is; None if there is no such LOT."""
    book, owners = frozen(book), frozen(owners)
    refuse(book, places=owners, ages=(version,))
    offers = family_offers(book, version)
    refuse_many(offers)
    lots = choices(owners, asked)
    if len(lots) == 0:
        return None
    layer = cut_layers(book, offers)
    return min([cut_to(layer, some)[0] for some in lots]) - 1
