"""Tables of STATES: where a VERSION can stand, and whose reads it must pass, going backward."""

from hintring.deeds import coming, is_write
from hintring.masks import has_place, mask_of, masks_of
from hintring.misses import first_free
from hintring.pasts import mask_ahead


def table_to(book, some, start):
    """The table of some behind all, from the MOMENT start on."""
    layer = {(mask_of(some), place, 0): None for place in some}
    return table_from(book, layer, [0] * (len(book[2]) + 1), start)


def table_from(book, layer, bars, start):
    """For each MOMENT from start on the STATES (guard as a mask, place, comes) that lead to
    those of the last layer, each with the one behind the DEED between of which it is made.

    bars has for each MOMENT, as a mask, the PLACES where the VERSION may not stand then."""
    table = {len(book[2]): layer}
    for number in reversed(range(start, len(book[2]))):
        deed, moments = book[2][number], coming(book, number)
        behind = table[number + 1]
        if is_write(deed):
            lots = masks_of(deed[4])
            behind = [state for state in behind if first_free(lots, state[0]) is not None]
        found = {}
        for state in behind:
            for made in states_ahead(deed, number, moments, bars[number], state):
                found.setdefault(made, state)
        table[number] = found
    return table


def states_ahead(deed, number, moments, bar, state):
    """The list of the STATES that this DEED makes of one behind it; of a write, if any."""
    mask, place, comes = state
    ahead = mask_ahead(deed, mask)
    stays = not has_place(bar, place) and (deed[0] != "lose" or deed[2] != place)
    found = [(ahead, place, comes if stays or comes > 0 else number + 1)]
    if deed[0] in ("copy", "send") and place == deed[3] and not has_place(bar, deed[2]):
        if deed[0] == "copy" and comes == 0:
            found.append((ahead, deed[2], 0))
        if deed[0] == "send" and (comes == 0 or comes in moments):
            found.append((mask | (1 << deed[2]), deed[2], 0))
    return found


def does_begin(book, number, state):
    """Whether the VERSION of this write can come to a STATE (guard, place, comes) right behind it."""
    _, place, comes = state
    return place in book[2][number][3] and (comes == 0 or comes in coming(book, number))


def first_begun(book, number, layer):
    """The least STATE of a layer, right behind this write, to which its VERSION can come."""
    for state in sorted(layer):
        if does_begin(book, number, state):
            return state
    return None
