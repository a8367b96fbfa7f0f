"""LOTS as numbers: the bit of each PLACE that they have is set."""


def mask_of(lot):
    """The number for this LOT."""
    mask = 0
    for place in lot:
        mask = mask | (1 << place)
    return mask


def lot_of(mask):
    """The LOT for this number."""
    return tuple([place for place in range(mask.bit_length()) if has_place(mask, place)])


def masks_of(family):
    """The list of the numbers for these LOTS, in their order."""
    return [mask_of(lot) for lot in family]


def has_place(mask, place):
    """Whether the LOT of this number has this PLACE."""
    return (mask >> place) & 1 == 1


def least_masks(masks):
    """Those in which no unlike one lies, each once, ascending."""
    kept = []
    # What lies in a LOT has the smaller number, so each one meets all that may lie in it.
    for mask in sorted(set(masks)):
        if all([one & mask != one for one in kept]):
            kept.append(mask)
    return kept


def family_of(masks):
    """The FAMILY of the least of the LOTS of these numbers."""
    return tuple(sorted([lot_of(mask) for mask in least_masks(masks)]))
