"""Families: which LOTS will do, and what shares a PLACE with each of them."""

from hintring.errors import NoPlace, Unfit
from hintring.masks import family_of, least_masks, mask_of, masks_of
from hintring.plain import ascends, choices, frozen, is_lot


def is_family(thing, many):
    """Whether thing is a FAMILY of PLACES below many."""
    if not isinstance(thing, tuple) or len(thing) == 0:
        return False
    if not all([is_lot(lot, many) for lot in thing]):
        return False
    return ascends(thing) and not any_within(thing)


def any_within(lots):
    """Whether one of these unlike LOTS lies in another one."""
    # PLACES get numbers of their own here, as those of a thing may be too great to be bits.
    numbers = {}
    for lot in lots:
        for place in lot:
            numbers.setdefault(place, len(numbers))
    by_size = {}
    for lot in lots:
        mask = mask_of([numbers[place] for place in lot])
        by_size.setdefault(len(lot), []).append(mask)
    smaller = []
    for size in sorted(by_size):
        for mask in by_size[size]:
            if any([one & mask == one for one in smaller]):
                return True
        smaller = smaller + by_size[size]
    return False


def by_count(homes, need):
    """The FAMILY of all LOTS of need of these homes."""
    homes = frozen(homes)
    if need < 0 or need > len(homes):
        raise Unfit()
    return tuple(choices(homes, need))


def by_sites(sites, needs):
    """The FAMILY of all unions of so many PLACES of each site."""
    sites, needs = frozen(sites), frozen(needs)
    places = [place for site in sites for place in site]
    if len(set(places)) < len(places):
        raise Unfit()
    for site, need in zip(sites, needs):
        if need < 0 or need > len(site):
            raise Unfit()
    lots = [()]
    for site, need in zip(sites, needs):
        lots = [lot + some for lot in lots for some in choices(site, need)]
    return tuple(sorted([tuple(sorted(lot)) for lot in lots]))


def least(lots):
    """The FAMILY of those LOTS in which no unlike one lies."""
    lots = frozen(lots)
    if len(lots) == 0:
        raise Unfit()
    return family_of(masks_of(lots))


def has_lot(family, some):
    """Whether a whole lot of the family lies in some."""
    return lot_within(frozen(family), frozen(some))


def lot_within(family, some):
    """The same of tuples."""
    return any([all([place in some for place in lot]) for lot in family])


def room(family, some):
    """The first LOT of the family that shares no PLACE with some, or None."""
    family, some = frozen(family), frozen(some)
    for lot in family:
        if all([place not in some for place in lot]):
            return lot
    return None


def blockers(family):
    """The FAMILY of the least sets that share a PLACE with each LOT of this one."""
    family = frozen(family)
    if family == ((),):
        raise Unfit()
    found = [0]
    for lot in family:
        found = least_masks(hitting(found, lot))
    return family_of(found)


def hitting(masks, lot):
    """These sets, each one that shares no PLACE with lot grown by one of its PLACES in all ways."""
    found = []
    lot_mask = mask_of(lot)
    for mask in masks:
        if mask & lot_mask:
            found.append(mask)
        else:
            for place in lot:
                found.append(mask | (1 << place))
    return found


def either(family, other):
    """The FAMILY of which a whole lot lies where one of one of the two does."""
    return family_of(masks_of(frozen(family)) + masks_of(frozen(other)))


def both(family, other):
    """The FAMILY of which a whole lot lies where one of each of the two does."""
    theirs = masks_of(frozen(other))
    return family_of([one | two for one in masks_of(frozen(family)) for two in theirs])


def apart(family, other):
    """The least pair of LOTS, one of each, that share no PLACE, or None."""
    family, other = frozen(family), frozen(other)
    for lot in family:
        for some in other:
            if shared(lot, some) == 0:
                return lot, some
    return None


def least_common(family, other):
    """The least number of PLACES that a LOT of one and a LOT of the other share."""
    other = frozen(other)
    return min([shared(lot, some) for lot in frozen(family) for some in other])


def shared(lot, some):
    """How many PLACES the two LOTS share."""
    return len([place for place in lot if place in some])


def renamed_family(family, names):
    """The FAMILY with names[p] in the place of each PLACE p."""
    family, names = frozen(family), frozen(names)
    for place in sorted(set([place for lot in family for place in lot])):
        if place >= len(names):
            raise NoPlace(place)
    return family_with_names(family, names)


def family_with_names(family, names):
    """The same of tuples, for names that are enough."""
    return tuple(sorted([lot_with_names(lot, names) for lot in family]))


def lot_with_names(lot, names):
    """The LOT with names[p] in the place of each PLACE p."""
    return tuple(sorted([names[place] for place in lot]))
