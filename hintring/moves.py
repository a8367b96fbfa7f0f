"""Moves of owners: what a range can lose when others take it over, and what keeps it safe."""

from hintring.errors import NoPlace, TooMany, Unfit
from hintring.families import both, by_count
from hintring.masks import has_place, mask_of, masks_of
from hintring.misses import first_free
from hintring.pasts import mask_ahead, past_masks
from hintring.plain import are_numbers, choices, frozen, is_set, is_tuple
from hintring.rings import changed, line_from, refuse_point, sections_of

MOST_PAIRS = 12


def is_move(thing):
    """Whether thing is a MOVE."""
    if not is_tuple(thing, 3) or not isinstance(thing[2], tuple):
        return False
    old, new, copies = thing
    if not all([is_set(lot) and len(lot) > 0 and lot[0] >= 0 for lot in (old, new)]):
        return False
    if not all([is_tuple(pair, 2) and are_numbers(pair) for pair in copies]):
        return False
    return all([one >= 0 and other >= 0 and one != other for one, other in copies])


def origins(move, place):
    """The LOT of the old PLACES from which this new one surely has what they held."""
    move = frozen(move)
    if place not in move[1]:
        raise NoPlace(place)
    return origins_in(move, place)


def origins_in(move, place):
    """The same of tuples, for any PLACE."""
    old, _, copies = move
    held = [place]
    for one, other in reversed(copies):
        if other in held and one not in held:
            held.append(one)
    return tuple([one for one in old if one in held])


def origin_masks(move):
    """For each new PLACE its origins, as a mask of their positions in old."""
    old = move[0]
    return {place: mask_of([old.index(one) for one in origins_in(move, place)]) for place in move[1]}


def joined_mask(masks, some):
    """The origins that these PLACES have together, of what origin_masks tells."""
    mask = 0
    for place in some:
        mask = mask | masks[place]
    return mask


def size_of(mask):
    """How many PLACES the LOT of this mask has."""
    return len([place for place in range(mask.bit_length()) if has_place(mask, place)])


def can_lose(move, need, reads):
    """Whether a write that need old PLACES took can be missed by reads new ones."""
    return losing_in(frozen(move), need, reads) is not None


def losing_lot(move, need, reads):
    """A LOT of so many new PLACES that can miss it; None if there is none."""
    return losing_in(frozen(move), need, reads)


def losing_in(move, need, reads):
    """The same of tuples: the least such LOT."""
    masks = origin_masks(move)
    for some in choices(move[1], reads):
        if size_of(joined_mask(masks, some)) + need <= len(move[0]):
            return some
    return None


def is_losing_lot(move, need, reads, thing):
    """Whether thing is a LOT of so many new PLACES that can miss it."""
    move = frozen(move)
    if not is_set(thing) or len(thing) != reads or not all([place in move[1] for place in thing]):
        return False
    return size_of(joined_mask(origin_masks(move), thing)) + need <= len(move[0])


def least_reads(move, need):
    """The least reads with which it can not be lost; None if there are none."""
    move = frozen(move)
    for reads in range(1, len(move[1]) + 1):
        if losing_in(move, need, reads) is None:
            return reads
    return None


def heirs(move):
    """HEIRS of the MOVE: an origin of its own for each new PLACE; None if there are none."""
    return heirs_in(frozen(move))


def heirs_in(move):
    """The same of tuples."""
    able = {place: origins_in(move, place) for place in move[1]}
    taken = {}
    for place in move[1]:
        if not settled(able, taken, place, []):
            return None
    return tuple(sorted([(taken[origin], origin) for origin in taken]))


def settled(able, taken, place, met):
    """Whether this PLACE was given an origin in taken, others moved to other ones for it; met
    are the origins that were tried."""
    for origin in able[place]:
        if origin not in met:
            met.append(origin)
            if origin not in taken or settled(able, taken, taken[origin], met):
                taken[origin] = place
                return True
    return False


def is_heirs(move, thing):
    """Whether thing are HEIRS of the MOVE."""
    move = frozen(move)
    if not is_tuple(thing, len(move[1])) or not all([is_tuple(pair, 2) and are_numbers(pair) for pair in thing]):
        return False
    if tuple([place for place, _ in thing]) != move[1]:
        return False
    if len(set([origin for _, origin in thing])) < len(thing):
        return False
    return all([origin in origins_in(move, place) for place, origin in thing])


def short_lot(move):
    """A LOT of new PLACES with fewer origins together than they are; None if there is none."""
    move = frozen(move)
    masks = origin_masks(move)
    for size in range(1, len(move[1]) + 1):
        for some in choices(move[1], size):
            if size_of(joined_mask(masks, some)) < size:
                return some
    return None


def is_short_lot(move, thing):
    """Whether thing is a LOT of new PLACES, not (), that is short."""
    move = frozen(move)
    if not is_set(thing) or len(thing) == 0 or not all([place in move[1] for place in thing]):
        return False
    return size_of(joined_mask(origin_masks(move), thing)) < len(thing)


def fewest_copies(old, new, away, need, reads):
    """The least of the smallest sets of pairs with which nothing is lost; None if there are none."""
    old, new, away = frozen(old), frozen(new), frozen(away)
    pairs = [(one, other) for one in old if one not in away for other in new if other not in old]
    if len(pairs) > MOST_PAIRS:
        raise TooMany()
    for size in range(len(pairs) + 1):
        for some in choices(tuple(pairs), size):
            if losing_in((old, new, some), need, reads) is None:
                return some
    return None


def four_phases(old, new, need, reads):
    """The PHASES by which old PLACES are left for new ones."""
    old_writes, new_writes = by_count(old, need), by_count(new, need)
    old_reads, new_reads = by_count(old, reads), by_count(new, reads)
    each = both(old_writes, new_writes)
    return (old_writes, old_reads), (each, old_reads), (each, new_reads), (new_writes, new_reads)


def mishaps(book, phases):
    """The ascending list of all MISHAPS."""
    book, phases = frozen(book), frozen(phases)
    writes = [masks_of(phase[0]) for phase in phases]
    known = {}
    found = []
    for later in range(len(book[2]) + 1):
        for reader, phase in enumerate(phases):
            for moment, masks in enumerate(pasts_together(book[2], masks_of(phase[1]), later)):
                for writer in range(len(phases)):
                    if any([is_apart(known, writes, writer, mask) for mask in masks]):
                        found.append((writer, reader, moment, later))
    return sorted(found)


def pasts_together(deeds, masks, later):
    """For each MOMENT up to later the unlike LOTS that the PASTS of these have then, as masks."""
    rows = [sorted(set(masks))]
    for number in reversed(range(later)):
        rows.append(sorted({mask_ahead(deeds[number], mask) for mask in rows[-1]}))
    return rows[::-1]


def is_apart(known, writes, writer, mask):
    """Whether one of the writes of this PHASE shares no PLACE with this LOT; known keeps it."""
    if (writer, mask) not in known:
        known[(writer, mask)] = first_free(writes[writer], mask) is not None
    return known[(writer, mask)]


def is_mishap_lots(book, phases, mishap, thing):
    """Whether thing is a LOT of writes and a LOT of reads that show this MISHAP."""
    book, phases, mishap = frozen(book), frozen(phases), frozen(mishap)
    writer, reader, moment, later = mishap
    if not 0 <= moment <= later <= len(book[2]):
        return False
    if not 0 <= writer < len(phases) or not 0 <= reader < len(phases):
        return False
    if not is_tuple(thing, 2) or not all([is_set(lot) for lot in thing]):
        return False
    lot, some = thing
    if lot not in phases[writer][0] or some not in phases[reader][1]:
        return False
    return past_masks(book[2], mask_of(some), later)[moment] & mask_of(lot) == 0


def dealt(ring, other, copies, point):
    """The MOVE from the OWNERS in one RING to those in another one, each that comes in with a
    copy from one that goes out."""
    ring, other = frozen(ring), frozen(other)
    refuse_point(ring[0], point)
    if ring[0] != other[0]:
        raise Unfit()
    if ring[1] == () or other[1] == ():
        raise Unfit()
    return dealt_in(ring, other, copies, point)


def dealt_in(ring, other, copies, point):
    """The same of tuples, also for RINGS without spots."""
    old, new = line_from(ring, point)[:copies], line_from(other, point)[:copies]
    outs = [node for node in old if node not in new]
    ins = [node for node in new if node not in old]
    return tuple(sorted(old)), tuple(sorted(new)), tuple([(one, two) for one, two in zip(outs, ins)])


def breaks(ring, changes, copies):
    """The SECTIONS without HEIRS if only the copies of each change alone are made."""
    ring, changes = frozen(ring), frozen(changes)
    final = changed(ring, changes)
    alone = [changed(ring, (change,)) for change in changes]
    if ring[1] == () or final[1] == ():
        raise Unfit()
    found = []
    for section in sections_of((ring, final)):
        old, new, _ = dealt_in(ring, final, copies, section[1])
        # Where a change alone leaves no spots, nobody comes in by it.
        rows = [dealt_in(ring, other, copies, section[1])[2] for other in alone]
        pairs = tuple([pair for row in rows for pair in row])
        if heirs_in((old, new, pairs)) is None:
            found.append(section)
    return tuple(found)
