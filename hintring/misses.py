"""What reads can miss: writes that have room beside the PAST of those asked."""

from hintring.deeds import is_write, refuse, write_numbers, write_with, writes_from
from hintring.errors import NoVersion
from hintring.masks import has_place, mask_of, masks_of
from hintring.pasts import past_masks, road_in
from hintring.plain import choices, frozen
from hintring.worlds import quiet


def masks_behind(book, some):
    """The PAST of some behind all, as masks."""
    return past_masks(book[2], mask_of(some), len(book[2]))


def first_free(lots, mask):
    """The position of the first of these LOTS that shares no PLACE with this one, all
    as masks; None if there is none."""
    for at, lot in enumerate(lots):
        if lot & mask == 0:
            return at
    return None


def offers_from(deeds, version):
    """For each write from version its number and the LOTS of its family, as masks."""
    return [(number, masks_of(deeds[number][4])) for number in writes_from(deeds, version)]


def first_held(offers, masks):
    """The number of the first of these writes without room beside this PAST, or None."""
    for number, lots in offers:
        if first_free(lots, masks[number + 1]) is None:
            return number
    return None


def can_miss(book, some, version):
    """Whether some can miss this number."""
    book, some = frozen(book), frozen(some)
    refuse(book, places=some, ages=(version,))
    return first_held(offers_from(book[2], version), masks_behind(book, some)) is None


def miss_world(book, some, version):
    """A WORLD in which a read of some tells less; None if there is none."""
    book, some = frozen(book), frozen(some)
    refuse(book, places=some, ages=(version,))
    return world_without(book, some, version)


def world_without(book, some, version):
    """The same of tuples."""
    masks = masks_behind(book, some)
    lots = []
    for number in write_numbers(book[2]):
        family = book[2][number][4]
        at = 0
        if book[2][number][2] >= version:
            at = first_free(masks_of(family), masks[number + 1])
            if at is None:
                return None
        lots.append(family[at])
    return quiet(book[2], lots)


def hold_paper(book, some, version):
    """None if some can miss it; else the first write without room, and who hands it on."""
    book, some = frozen(book), frozen(some)
    refuse(book, places=some, ages=(version,))
    masks = masks_behind(book, some)
    number = first_held(offers_from(book[2], version), masks)
    if number is None:
        return None
    homes = [place for place in book[2][number][3] if has_place(masks[number + 1], place)]
    return number, tuple([road_in(book[2], masks, place, number + 1) for place in homes])


def held_version(book, some):
    """The latest VERSION that some can not miss; 0 if there is none."""
    book, some = frozen(book), frozen(some)
    refuse(book, places=some)
    return held_by(book, offers_from(book[2], 1), some)


def held_by(book, offers, some):
    """The latest VERSION of these writes that some can not miss; 0 if there is none."""
    masks = masks_behind(book, some)
    held = 0
    for number, lots in offers:
        if first_free(lots, masks[number + 1]) is None:
            held = book[2][number][2]
    return held


def lots_that_miss(book, owners, version):
    """For each number of owners, from 0 to all, the list of the LOTS of so many that can miss."""
    offers = offers_from(book[2], version)
    views = {place: masks_behind(book, (place,)) for place in owners}
    rows = []
    for size in range(len(owners) + 1):
        rows.append([some for some in choices(owners, size)
                     if have_room(offers, [views[place] for place in some])])
    return rows


def have_room(offers, pasts):
    """Whether each of these writes has room beside these PASTS together."""
    for number, lots in offers:
        mask = 0
        for masks in pasts:
            mask = mask | masks[number + 1]
        if first_free(lots, mask) is None:
            return False
    return True


def most_that_miss(book, owners, version):
    """The greatest number of owners in a LOT of them that can miss it."""
    book, owners = frozen(book), frozen(owners)
    refuse(book, places=owners, ages=(version,))
    return greatest_size(lots_that_miss(book, owners, version))


def greatest_size(rows):
    """The last position at which there is a LOT."""
    return max([size for size, lots in enumerate(rows) if len(lots) > 0])


def worst_lot(book, owners, asked, version):
    """The least LOT of so many owners that can miss it; None if there is none."""
    book, owners = frozen(book), frozen(owners)
    refuse(book, places=owners, ages=(version,))
    rows = lots_that_miss(book, owners, version)
    if asked >= len(rows) or len(rows[asked]) == 0:
        return None
    return min(rows[asked])


def least_asked(book, owners, version):
    """The least number such that no LOT of so many owners can miss it, or None."""
    book, owners = frozen(book), frozen(owners)
    refuse(book, places=owners, ages=(version,))
    size = greatest_size(lots_that_miss(book, owners, version))
    if size == len(owners):
        return None
    return size + 1


def harmless_lots(book, owners, version):
    """The set of the least LOTS of owners that can not miss it."""
    book, owners = frozen(book), frozen(owners)
    refuse(book, places=owners, ages=(version,))
    rows = lots_that_miss(book, owners, version)
    found = []
    for size in range(1, len(owners) + 1):
        for some in choices(owners, size):
            parts = choices(some, size - 1)
            if some not in rows[size] and all([part in rows[size - 1] for part in parts]):
                found.append(some)
    return tuple(sorted(found))


def least_need(book, version, owners, asked):
    """The least need of the write of version with which no LOT of so many owners can miss it."""
    book, owners = frozen(book), frozen(owners)
    refuse(book, places=owners, ages=(version,))
    number = write_with(book[2], version)
    if number is None:
        raise NoVersion(version)
    if asked > len(owners):
        return 1
    need = 1
    offers = offers_from(book[2], version + 1)
    for some in choices(owners, asked):
        masks = masks_behind(book, some)
        if first_held(offers, masks) is None:
            homes = [place for place in book[2][number][3] if not has_place(masks[number + 1], place)]
            need = max(need, len(homes) + 1)
    if need > len(book[2][number][3]):
        return None
    return need


def missed_versions(book, owners, asked):
    """The set of the VERSIONS that some LOT of so many owners can miss."""
    book, owners = frozen(book), frozen(owners)
    refuse(book, places=owners)
    offers = offers_from(book[2], 1)
    held = [held_by(book, offers, some) for some in choices(owners, asked)]
    if len(held) == 0:
        return ()
    return tuple([deed[2] for deed in book[2] if is_write(deed) and deed[2] > min(held)])
