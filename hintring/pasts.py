"""Pasts and roads: from whom something surely comes, and by which way."""

from hintring.deeds import is_write, refuse, write_numbers
from hintring.errors import Unfit
from hintring.families import room
from hintring.masks import has_place, lot_of, mask_of
from hintring.plain import frozen, is_number, is_tuple


def mask_ahead(deed, mask):
    """The LOT of a PAST ahead of this DEED, of that behind it, both as masks."""
    if deed[0] == "copy" and has_place(mask, deed[3]):
        return mask | (1 << deed[2])
    if deed[0] == "lose":
        return mask & ~(1 << deed[2])
    return mask


def past_masks(deeds, mask, moment):
    """The PAST of the LOT of this mask at this MOMENT, as masks."""
    masks = [mask]
    for number in reversed(range(moment)):
        masks.append(mask_ahead(deeds[number], masks[-1]))
    return masks[::-1]


def lots_of(masks):
    """The tuple of the LOTS of these masks."""
    return tuple([lot_of(mask) for mask in masks])


def past(book, some, moment):
    """The PAST of some at this MOMENT."""
    book, some = frozen(book), frozen(some)
    refuse(book, places=some, moments=(moment,))
    return lots_of(past_masks(book[2], mask_of(some), moment))


def pasts_of_each(book, moment):
    """The PASTS at this MOMENT of the LOTS of each single PLACE."""
    book = frozen(book)
    refuse(book, moments=(moment,))
    masks = [1 << place for place in range(book[0])]
    return tuple([lots_of(past_masks(book[2], mask, moment)) for mask in masks])


def has_room(book, lots, number):
    """Whether the write of this DEED has room beside these LOTS."""
    book, lots = frozen(book), frozen(lots)
    refuse(book, numbers=(number,))
    if not is_write(book[2][number]) or len(lots) < number + 2:
        raise Unfit()
    return room(book[2][number][4], lots[number + 1]) is not None


def rooms(book, lots):
    """The set of the numbers of the writes that have room beside these LOTS."""
    deeds, lots = frozen(book)[2], frozen(lots)
    told = [number for number in write_numbers(deeds) if number + 2 <= len(lots)]
    return tuple([number for number in told if room(deeds[number][4], lots[number + 1]) is not None])


def sure_after(book, some, start):
    """To whom what some hold at start is surely handed on, MOMENT by MOMENT."""
    book, some = frozen(book), frozen(some)
    refuse(book, places=some, moments=(start,))
    masks = [mask_of(some)]
    for deed in book[2][start:]:
        masks.append(mask_behind(deed, masks[-1]))
    return lots_of(masks)


def mask_behind(deed, mask):
    """The LOT of sure_after behind this DEED, of that ahead of it, both as masks."""
    if deed[0] == "copy" and has_place(mask, deed[2]):
        return mask | (1 << deed[3])
    if deed[0] == "lose":
        return mask & ~(1 << deed[2])
    return mask


def road(book, some, moment, place, start):
    """The road from place at start to some that stays where it can; None if there is none."""
    book, some = frozen(book), frozen(some)
    refuse(book, places=some + (place,), moments=(moment, start))
    masks = past_masks(book[2], mask_of(some), moment)
    if start > moment or not has_place(masks[start], place):
        return None
    return road_in(book[2], masks, place, start)


def road_in(deeds, masks, place, start):
    """The same within a PAST, for a PLACE that is in it at start."""
    steps = [place]
    for number in range(start, len(masks) - 1):
        if not has_place(masks[number + 1], steps[-1]):
            # Who is in a PAST and no more behind a DEED hands on by just this DEED.
            steps.append(deeds[number][3])
        else:
            steps.append(steps[-1])
    return tuple(steps)


def is_road(book, some, moment, place, start, thing):
    """Whether thing is a road from place at start to some at moment."""
    book, some = frozen(book), frozen(some)
    refuse(book, places=some + (place,), moments=(moment, start))
    if start > moment or not is_tuple(thing, moment - start + 1):
        return False
    if not all([is_number(one) for one in thing]) or thing[0] != place or thing[-1] not in some:
        return False
    deeds = book[2][start:moment]
    return all([is_step(deed, one, other) for deed, one, other in zip(deeds, thing, thing[1:])])


def is_step(deed, one, other):
    """Whether a road can lead over this DEED from one to other."""
    if one == other:
        return deed[0] != "lose" or deed[2] != one
    return deed[0] == "copy" and deed[2:] == (one, other)


def idle_deeds(book):
    """The set of the numbers of the idle copies and losses."""
    many, _, deeds = frozen(book)
    rows = [past_masks(deeds, 1 << place, len(deeds)) for place in range(many)]
    told = [number for number, deed in enumerate(deeds) if deed[0] in ("copy", "lose")]
    return tuple([number for number in told
                  if all([masks[number] == masks[number + 1] for masks in rows])])


def without_idle(book):
    """The BOOK without its idle copies and losses."""
    many, life, deeds = frozen(book)
    idle = idle_deeds(book)
    return many, life, tuple([deed for number, deed in enumerate(deeds) if number not in idle])
