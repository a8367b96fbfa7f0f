"""Logs: what several reads can have told together, and who is to blame if they can not."""

from hintring.deeds import is_write, refuse, write_numbers, write_with
from hintring.errors import NoVersion, TooMany, Unfit
from hintring.fences import (Quest, below, can_do, doing, first_unreached, has_room_beside, level_of, marked_sends,
                             marks_of, reach_masks, rows_of)
from hintring.instead import all_told
from hintring.masks import has_place, lot_of, mask_of, masks_of
from hintring.misses import first_free
from hintring.pasts import lots_of, past_masks
from hintring.plain import choices, frozen, is_lot, is_number, is_tuple
from hintring.tables import first_begun, table_from

MOST_MARKINGS = 700


def is_log(book, thing):
    """Whether thing is a LOG of the book, of whatever size."""
    many, _, deeds = frozen(book)
    if not isinstance(thing, tuple) or not all([is_entry(many, len(deeds), entry) for entry in thing]):
        return False
    return all([one[0] <= other[0] for one, other in zip(thing, thing[1:])])


def is_entry(many, last, entry):
    """Whether this is a MOMENT up to the last one, a LOT, and a VERSION or 0."""
    if not is_tuple(entry, 3) or not is_number(entry[0]) or not is_number(entry[2]):
        return False
    return 0 <= entry[0] <= last and is_lot(entry[1], many) and entry[2] >= 0


def refuse_many(book, told):
    """Raises TooMany if the sends can be marked with so many VERSIONS in too many ways."""
    ways = 1
    for deed in book[2]:
        if deed[0] == "send":
            ways = ways * (told + 1)
    if ways > MOST_MARKINGS:
        raise TooMany()


def told_in(log):
    """How many unlike VERSIONS the LOG has."""
    return len(marks_of(log)) - 1


def can_be(book, log):
    """Whether some WORLD keeps the LOG."""
    book, log = frozen(book), frozen(log)
    refuse_many(book, told_in(log))
    return can_do(Quest(book, log, ()))


def log_world(book, log):
    """A WORLD that keeps the LOG; None if there is none."""
    book, log = frozen(book), frozen(log)
    refuse_many(book, told_in(log))
    return world_in(Quest(book, log, ()))


def world_in(quest):
    """A WORLD in which all is as the Quest asks; None if there is none."""
    found = doing(quest, 1)
    if len(found) == 0:
        return None
    marking, rows = found[0]
    letters = {}
    for moment, mask, version in quest.asked:
        if version > 0:
            reach = reach_masks(quest, marking, rows, version)
            place = lot_of(reach[moment] & mask)[0]
            for letter in letters_to(quest, marking, reach, version, (moment, place)):
                letters[letter] = True
    return world_with(quest, rows, sorted(letters))


def letters_to(quest, marking, reach, version, stand):
    """The letters (number, place, moment) by which this VERSION comes to a STAND of its REACH."""
    marks = marked_sends(quest, marking)
    born = write_with(quest.deeds, version)
    found = []
    while stand is not None:
        moment, place = stand
        if moment in quest.comes[born] and place in quest.deeds[born][3]:
            found.append((born, place, moment))
            stand = None
        else:
            stand = stand_ahead(quest, reach, moment, place)
            if stand is None:
                number = sender_to(quest, marks, reach, version, (moment, place))
                found.append((number, place, moment))
                stand = (number, quest.deeds[number][2])
    return found


def sender_to(quest, marks, reach, version, stand):
    """The number of a send marked with this VERSION that hands it on from REACH to this STAND."""
    moment, place = stand
    for number in marks:
        deed = quest.deeds[number]
        if marks[number] == version and deed[3] == place and moment in quest.comes[number]:
            if has_place(reach[number], deed[2]):
                return number
    return None


def stand_ahead(quest, reach, moment, place):
    """The STAND of REACH a MOMENT ago from which it is carried on there without a letter."""
    deed = quest.deeds[moment - 1]
    if has_place(reach[moment - 1], place) and (deed[0] != "lose" or deed[2] != place):
        return moment - 1, place
    if deed[0] == "copy" and deed[3] == place and has_place(reach[moment - 1], deed[2]):
        return moment - 1, deed[2]
    return None


def world_with(quest, rows, letters):
    """The WORLD with just these letters (number, place, moment), in which the first LOT that
    may take it takes each write, with these FENCES."""
    world = []
    for number, deed in enumerate(quest.deeds):
        ours = [letter[1:] for letter in letters if letter[0] == number]
        if is_write(deed):
            at = first_free(quest.lots[number], rows[number + 1][below(quest, number)])
            world.append((deed[4][at], tuple(ours)))
        else:
            world.append(tuple([moment for _, moment in ours]))
    return tuple(world)


def refuse_entry(book, log, some, moment, told):
    """What is refused for one entry more at the end of the LOG."""
    refuse(book, places=some, moments=(moment,))
    if len(log) > 0 and moment < log[-1][0]:
        raise Unfit()
    refuse_many(book, told)


def next_answers(book, log, moment, some):
    """The set of what a further read, of some at this MOMENT, may tell."""
    book, log, some = frozen(book), frozen(log), frozen(some)
    refuse_entry(book, log, some, moment, told_in(log) + 1)
    return tuple([version for version in all_told((book[0], book[1], book[2][:moment]), some)
                  if can_do(Quest(book, log + ((moment, some, version),), ()))])


def sure_lot(book, log, moment, owners):
    """The first LOT of the fewest owners of which a further read can tell just one thing."""
    book, log, owners = frozen(book), frozen(log), frozen(owners)
    refuse_entry(book, log, owners, moment, told_in(log) + 1)
    if not can_do(Quest(book, log, ())):
        return None
    tops = {place: greatest_next(book, log, moment, place) for place in owners}
    lowered = {}
    for size in range(1, len(owners) + 1):
        for some in choices(owners, size):
            top = max([tops[place] for place in some])
            if top not in lowered:
                # What all of these can go below together, each part of them can, too.
                alike = tuple([place for place in owners if tops[place] <= top])
                lowered[top] = top > 0 and can_be_below(book, log, moment, alike, top)
            if not lowered[top] and (top == 0 or not can_be_below(book, log, moment, some, top)):
                return some
    return None


def greatest_next(book, log, moment, place):
    """The greatest that a further read of this PLACE alone may tell, of a LOG that can be."""
    for version in reversed(all_told((book[0], book[1], book[2][:moment]), (place,))):
        if can_do(Quest(book, log + ((moment, (place,), version),), ())):
            return version
    return 0


def can_be_below(book, log, moment, some, top):
    """Whether the LOG can be while each of some holds less than top at this MOMENT."""
    return can_do(Quest(book, log, ((moment, some, top - 1),)))


def backs(book, moment, some, after, other):
    """The set of what some can tell at moment, while other tell less at the MOMENT after."""
    book, some, other = frozen(book), frozen(some), frozen(other)
    refuse(book, places=some + other, moments=(moment, after))
    if after < moment:
        raise Unfit()
    refuse_many(book, 1)
    return told_back(book, moment, some, after, other)


def told_back(book, moment, some, after, other):
    """The same of tuples."""
    many, life, deeds = book
    bars = past_masks(deeds, mask_of(other), after)
    rooms = [number for number in write_numbers(deeds[:after])
             if first_free(masks_of(deeds[number][4]), bars[number + 1]) is not None]
    if any([number not in rooms for number in write_numbers(deeds[:after]) if number >= moment]):
        return ()
    layer = {(bars[moment] | mask_of(some), place, 0): None for place in some if not has_place(bars[moment], place)}
    ours = write_numbers(deeds[:moment])
    if len(ours) == 0:
        return ()
    ahead = (many, life, deeds[:moment])
    table = table_from(ahead, layer, bars, ours[0] + 1)
    return tuple([deeds[number][2] for number in ours
                  if number in rooms and first_begun(ahead, number, table[number + 1]) is not None])


def is_rising(book, asks):
    """Whether in no WORLD one of these reads tells less than one ahead of it."""
    return first_fall(frozen(book), frozen(asks)) is None


def first_fall(book, asks):
    """The first two reads of which the later one can tell less: what the one ahead can tell
    then, as an entry, and what the other one may tell at most; None if there are none."""
    refuse_many(book, 1)
    for at, (after, other) in enumerate(asks):
        for moment, some in asks[:at]:
            told = told_back(book, moment, some, after, other)
            if told != ():
                return (moment, some, told[0]), (after, other, told[0] - 1)
    return None


def falling_world(book, asks):
    """A WORLD in which one of these reads tells less than one ahead of it; None if there is none."""
    fall = first_fall(book, asks)
    if fall is None:
        return None
    entry, cap = fall
    return world_in(Quest(book, (entry,), (cap,)))


def blame(book, log):
    """The set of the least sets of entries without which the others can be."""
    book, log = frozen(book), frozen(log)
    refuse_many(book, told_in(log))
    found = []
    for size in range(len(log) + 1):
        for some in choices(tuple(range(len(log))), size):
            if not any([all([at in some for at in one]) for one in found]):
                rest = tuple([entry for at, entry in enumerate(log) if at not in some])
                if can_do(Quest(book, rest, ())):
                    found.append(some)
    return tuple(sorted(found))


def fences_behind(book, log, version):
    """The number of the write of this VERSION, the Quest, and for each MARKING that does the
    LOT, as a mask, that can not have taken it."""
    number = write_with(book[2], version)
    if number is None:
        raise NoVersion(version)
    refuse_many(book, told_in(log))
    quest = Quest(book, log, ())
    level = below(quest, number)
    return number, quest, sorted(set([rows[number + 1][level] for _, rows in doing(quest, MOST_MARKINGS)]))


def surely_took(book, log, version):
    """The homes of this write that took it in each WORLD that keeps the LOG; None without one."""
    book, log = frozen(book), frozen(log)
    number, quest, masks = fences_behind(book, log, version)
    if len(masks) == 0:
        return None
    return tuple([place for place in book[2][number][3]
                  if not any([has_room_beside(quest, number, mask | (1 << place)) for mask in masks])])


def may_have_taken(book, log, version):
    """The homes of this write that took it in some WORLD that keeps the LOG; None without one."""
    book, log = frozen(book), frozen(log)
    number, _, masks = fences_behind(book, log, version)
    if len(masks) == 0:
        return None
    return tuple([place for place in book[2][number][3] if not all([has_place(mask, place) for mask in masks])])


def markings(book, log):
    """The tuple of all MARKINGS, ascending."""
    book, log = frozen(book), frozen(log)
    refuse_many(book, told_in(log))
    rows = [()]
    for deed in book[2]:
        if deed[0] == "send":
            rows = [row + (mark,) for row in rows for mark in marks_of(log)]
    return tuple(rows)


def refuse_marking(book, log, marking):
    """Raises Unfit if this is no MARKING, then TooMany if there are too many."""
    sends = [deed for deed in book[2] if deed[0] == "send"]
    if not is_tuple(marking, len(sends)) or not all([is_number(mark) and mark in marks_of(log) for mark in marking]):
        raise Unfit()
    refuse_many(book, told_in(log))


def fence_of(book, log, marking, number):
    """FENCE number of this MARKING: one LOT for each MOMENT."""
    book, log, marking = frozen(book), frozen(log), frozen(marking)
    refuse_marking(book, log, marking)
    quest = Quest(book, log, ())
    level = level_of(quest.levels, number)
    return lots_of([masks[level] for masks in rows_of(quest, marking)])


def reach_of(book, log, marking, version):
    """REACH of this VERSION with this MARKING: one LOT for each MOMENT."""
    book, log, marking = frozen(book), frozen(log), frozen(marking)
    if version < 1 or version not in marks_of(log):
        raise NoVersion(version)
    refuse_marking(book, log, marking)
    quest = Quest(book, log, ())
    return lots_of(reach_masks(quest, marking, rows_of(quest, marking), version))


def breaks_at(book, log, marking):
    """None if this MARKING does; else the first write without room, with roads that show it, or
    else the first entry that nothing reaches."""
    book, log, marking = frozen(book), frozen(log), frozen(marking)
    refuse_marking(book, log, marking)
    quest = Quest(book, log, ())
    rows = rows_of(quest, marking)
    for number in write_numbers(quest.deeds):
        level = below(quest, number)
        mask = rows[number + 1][level]
        if not has_room_beside(quest, number, mask):
            homes = [place for place in quest.deeds[number][3] if has_place(mask, place)]
            marks = marked_sends(quest, marking)
            return number, tuple([road_held(quest, marks, rows, level, (number + 1, place)) for place in homes])
    return first_unreached(quest, marking, rows)


def road_held(quest, marks, rows, level, stand):
    """A road from a STAND of the FENCE of this level to one that must hold so little."""
    moment, place = stand
    steps = [place]
    while not is_held(quest, marks, level, moment, steps[-1]):
        if has_place(rows[moment + 1][level], steps[-1]):
            steps.append(steps[-1])
        else:
            steps.append(quest.deeds[moment][3])
        moment = moment + 1
    return tuple(steps)


def is_held(quest, marks, level, moment, place):
    """Whether an entry, or a marked send, itself asks for so little there then."""
    if any([one <= level and has_place(mask, place) for one, mask in quest.pins[moment]]):
        return True
    mark = marks.get(moment, 0)
    return mark > 0 and level_of(quest.levels, mark) <= level and quest.deeds[moment][2] == place
