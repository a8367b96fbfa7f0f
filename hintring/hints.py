"""Hints: boxes at other PLACES for homes that are away, and when one may be thrown."""

from hintring.deeds import is_write, refuse
from hintring.errors import CanNot
from hintring.masks import has_place, lot_of
from hintring.misses import first_held, held_by, masks_behind, offers_from
from hintring.pasts import past_masks
from hintring.plain import are_numbers, ascends, choices, frozen, is_tuple


def is_boxes(thing, many):
    """Whether thing is BOXES of PLACES below many."""
    if not isinstance(thing, tuple) or not all([is_tuple(row, 3) and are_numbers(row) for row in thing]):
        return False
    if not all([0 <= place < many for row in thing for place in row]) or not ascends(thing):
        return False
    kinds = [box for box, _, _ in thing]
    pairs = [(keeper, home) for _, keeper, home in thing]
    if len(set(kinds)) < len(kinds) or len(set(pairs)) < len(pairs):
        return False
    # A box is no keeper and no home, so in each triple all but keeper and home are unlike anyway.
    return all([keeper != home and keeper not in kinds and home not in kinds for keeper, home in pairs])


def keeps_to(book, boxes):
    """Whether nothing is handed on to a box, nor from one but to its home."""
    deeds, boxes = frozen(book)[2], frozen(boxes)
    homes = {box: home for box, _, home in boxes}
    for deed in deeds:
        if deed[0] in ("copy", "send"):
            _, _, one, other = deed
            if other in homes or homes.get(one, other) != other:
                return False
    return True


def first_there(line, copies, away):
    """The first PLACES of the line, so many, that are not away."""
    line, away = frozen(line), frozen(away)
    return tuple([place for place in line if place not in away][:copies])


def noted_homes(boxes, line, copies, away):
    """The LOT that a write goes to: who is there, and boxes for those who are away."""
    boxes, line, away = frozen(boxes), frozen(line), frozen(away)
    ours = line[:copies]
    keepers = [place for place in first_there(line, copies, away) if place not in ours]
    kept = {(keeper, home): box for box, keeper, home in boxes}
    found = [place for place in ours if place not in away]
    for keeper, home in zip(keepers, [place for place in ours if place in away]):
        if (keeper, home) not in kept:
            raise CanNot()
        found.append(kept[(keeper, home)])
    return tuple(sorted(found))


def home_of(boxes, box):
    """The home of this box; CanNot is raised if boxes do not have it."""
    for one, _, home in boxes:
        if one == box:
            return home
    raise CanNot()


def given_back(book, boxes, number):
    """The set of the boxes of this write from which what they took surely comes home."""
    book, boxes = frozen(book), frozen(boxes)
    refuse(book, numbers=(number,))
    deeds = book[2]
    if not is_write(deeds[number]):
        raise CanNot()
    found = []
    for box, _, home in boxes:
        if box in deeds[number][3] and has_place(masks_behind(book, (home,))[number + 1], box):
            found.append(box)
    return tuple(sorted(found))


def counts_from(book, boxes, number, box):
    """The least MOMENT at which the home of the box surely has what it took of this write."""
    book, boxes = frozen(book), frozen(boxes)
    refuse(book, places=(box,), numbers=(number,))
    deeds = book[2]
    if not is_write(deeds[number]):
        raise CanNot()
    home = home_of(boxes, box)
    for moment in range(number + 1, len(deeds) + 1):
        if has_place(past_masks(deeds, 1 << home, moment)[number + 1], box):
            return moment
    return None


def throw_paper(book, boxes, box):
    """None if the box may be thrown; else the least pair (lot, version) that shows why not."""
    book, boxes = frozen(book), frozen(boxes)
    refuse(book, places=(box,))
    home = home_of(boxes, box)
    offers = offers_from(book[2], 1)
    found = []
    for mask in range(1 << book[0]):
        if has_place(mask, home) and not has_place(mask, box):
            lot = lot_of(mask)
            held = held_by(book, offers, lot)
            kept = held_by(book, offers, lot + (box,))
            # A VERSION can be missed exactly if it is later than the held one.
            found = found + [(lot, book[2][number][2]) for number, _ in offers if held < book[2][number][2] <= kept]
    return min(found, default=None)


def least_gifts(book, boxes, some, reads, version, most):
    """The least of the smallest sets of gifts with which no LOT of reads of some can miss it."""
    book, boxes, some = frozen(book), frozen(boxes), frozen(some)
    refuse(book, places=some, ages=(version,))
    able = []
    for box, _, home in boxes:
        able = able + [(box, place) for place in ((home,) if home in some else some)]
    known = {}
    for size in range(most + 1):
        for gifts in choices(tuple(sorted(able)), size):
            lots = [with_gifts(lot, gifts) for lot in choices(some, reads)]
            if not any([does_miss(known, book, version, lot) for lot in lots]):
                return gifts
    return None


def with_gifts(lot, gifts):
    """The LOT with all boxes from which one of it is given something."""
    return tuple(sorted(set(list(lot) + [box for box, place in gifts if place in lot])))


def does_miss(known, book, version, lot):
    """Whether this LOT can miss it; known keeps it."""
    if lot not in known:
        known[lot] = first_held(offers_from(book[2], version), masks_behind(book, lot)) is None
    return known[lot]


def fewest_falls(book, boxes, version):
    """The least of the smallest LOTS of PLACES whose fall lets all together miss it."""
    book, boxes = frozen(book), frozen(boxes)
    refuse(book, ages=(version,))
    kinds = [box for box, _, _ in boxes]
    others = tuple([place for place in range(book[0]) if place not in kinds])
    offers = offers_from(book[2], version)
    for size in range(len(others) + 1):
        for some in choices(others, size):
            gone = list(some) + [box for box, keeper, _ in boxes if keeper in some]
            left = tuple([place for place in range(book[0]) if place not in gone])
            if first_held(offers, masks_behind(book, left)) is None:
                return some
    return None
