"""Talk: what each PLACE has heard of the others, whom it believes away, and what follows."""

from hintring.books import is_deed
from hintring.deeds import coming, is_write, refuse, write_numbers, writes_from
from hintring.errors import CanNot, TooMany
from hintring.masks import has_place, lot_of, masks_of
from hintring.misses import first_free, masks_behind
from hintring.pasts import mask_ahead, past_masks
from hintring.plain import frozen, is_number, is_tuple
from hintring.plays import letters_by_moments
from hintring.worlds import is_world

MOST_ROWS = 3000


def is_talk(thing):
    """Whether thing is a TALK, of whatever size."""
    if not is_tuple(thing, 3):
        return False
    many, life, deeds = thing
    if not is_number(many) or many < 1 or not is_number(life) or life < 0:
        return False
    if not isinstance(deeds, tuple) or not all([is_talk_deed(many, deed) for deed in deeds]):
        return False
    return all([one[1] <= other[1] for one, other in zip(deeds, deeds[1:])])


def is_talk_deed(many, deed):
    """Whether this is, by itself, a DEED of a TALK of so many PLACES."""
    if is_tuple(deed, 3) and deed[0] == "say":
        # What is lost and who says something are told alike.
        return is_deed(many, ("lose",) + deed[1:])
    return is_deed(many, deed) and not is_write(deed)


def is_talk_world(talk, thing):
    """Whether thing is a TALK WORLD of this TALK."""
    return is_world(talk, thing)


def said_in(talk):
    """The numbers of the DEEDS of all SAYINGS, in order."""
    return [number for number, deed in enumerate(talk[2]) if deed[0] == "say"]


def known_rows(talk, world):
    """For each MOMENT what each PLACE knows, SAYINGS as the bits of a number."""
    letters = letters_by_moments(talk, world)
    known, loads, said = [0] * talk[0], {}, 0
    rows = [tuple(known)]
    for number, deed in enumerate(talk[2]):
        if deed[0] == "say":
            said = said + 1
            known[deed[2]] = known[deed[2]] | (1 << said)
        elif deed[0] == "copy":
            known[deed[3]] = known[deed[3]] | known[deed[2]]
        elif deed[0] == "send":
            loads[number] = known[deed[2]]
        elif deed[0] == "lose":
            known[deed[2]] = 0
        for place, source in letters.get(number + 1, []):
            known[place] = known[place] | loads[source]
        rows.append(tuple(known))
    return rows


def sure_rows(talk):
    """The same of the WORLD without letters: what each PLACE knows in each WORLD."""
    return known_rows(talk, ((),) * len(talk[2]))


def known_in(talk, world, place, moment):
    """The set of the SAYINGS that the PLACE knows in this WORLD."""
    talk = frozen(talk)
    refuse(talk, places=(place,), moments=(moment,))
    return lot_of(known_rows(talk, frozen(world))[moment][place])


def surely_known(talk, place, moment):
    """The set of the SAYINGS that the PLACE knows in each WORLD."""
    talk = frozen(talk)
    refuse(talk, places=(place,), moments=(moment,))
    return lot_of(sure_rows(talk)[moment][place])


def may_know(talk, place, moment):
    """The set of the SAYINGS that the PLACE knows in some WORLD."""
    talk = frozen(talk)
    refuse(talk, places=(place,), moments=(moment,))
    masks = heard_masks(talk, place, moment)
    return tuple([at + 1 for at, number in enumerate(said_in(talk))
                  if number < moment and has_place(masks[number + 1], talk[2][number][2])])


def heard_masks(talk, place, moment):
    """For each MOMENT up to this one the PLACES, as a mask, from which a road leads there."""
    masks = {moment: 1 << place}
    for number in reversed(range(moment)):
        deed = talk[2][number]
        mask = mask_ahead(deed, masks[number + 1])
        if deed[0] == "send":
            times = [k for k in coming(talk, number) if k <= moment]
            if any([has_place(masks[k], deed[3]) for k in times]):
                mask = mask | (1 << deed[2])
        masks[number] = mask
    return [masks[k] for k in range(moment + 1)]


def world_of_letters(talk, wanted):
    """The WORLD whose letters come at just those MOMENTS at which they can and for which
    wanted, a mask for each MOMENT, has their PLACE."""
    world = []
    for number, deed in enumerate(talk[2]):
        moments = coming(talk, number) if deed[0] == "send" else ()
        world.append(tuple([k for k in moments if has_place(wanted[k], deed[3])]))
    return tuple(world)


def deafest(talk, place, start):
    """The WORLD in which letters come just where a road leads to the PLACE at start."""
    talk = frozen(talk)
    refuse(talk, places=(place,), moments=(start,))
    return deafest_of(talk, place, start)


def deafest_of(talk, place, start):
    """The same of tuples."""
    masks = heard_masks(talk, place, start)
    return world_of_letters(talk, masks + [0] * (len(talk[2]) - start))


def newest(talk, place, start):
    """The WORLD in which letters come just where no sure road leads to the PLACE at start."""
    talk = frozen(talk)
    refuse(talk, places=(place,), moments=(start,))
    return newest_of(talk, place, start)


def newest_of(talk, place, start):
    """The same of tuples."""
    whole = (1 << talk[0]) - 1
    masks = past_masks(talk[2], 1 << place, start) + [0] * (len(talk[2]) - start)
    return world_of_letters(talk, [whole & ~mask for mask in masks])


def is_lost(talk, place, start, moment):
    """Whether the PLACE is lost between these MOMENTS."""
    return any([deed[0] == "lose" and deed[2] == place for deed in talk[2][start:moment]])


def believed_away(talk, world, place, start, moment):
    """The set of the PLACES that the PLACE believes away between these MOMENTS in this WORLD."""
    rows = known_rows(talk, world)
    ahead, behind = rows[start][place], rows[moment][place]
    return tuple([near for near in range(talk[0]) if near != place
                  and last_of(talk, near, behind) <= last_of(talk, near, ahead)])


def last_of(talk, near, known):
    """The last SAYING of near among those that are known, as bits; 0 if there is none."""
    told = [at + 1 for at, number in enumerate(said_in(talk)) if talk[2][number][2] == near]
    return max([saying for saying in told if has_place(known, saying)], default=0)


def refuse_times(talk, place, start, moment):
    """What is refused for a PLACE between two MOMENTS."""
    refuse(talk, places=(place,), moments=(start, moment))
    if start > moment or is_lost(talk, place, start, moment):
        raise CanNot()


def may_be_away(talk, place, start, moment):
    """The set of the PLACES that the PLACE believes away in some WORLD."""
    talk = frozen(talk)
    refuse_times(talk, place, start, moment)
    # In this one WORLD it believes all those away whom it can believe away in any.
    return believed_away(talk, deafest_of(talk, place, start), place, start, moment)


def must_be_away(talk, place, start, moment):
    """The set of the PLACES that the PLACE believes away in each WORLD."""
    talk = frozen(talk)
    refuse_times(talk, place, start, moment)
    # In this one WORLD it hears all whom it can hear in any.
    return believed_away(talk, newest_of(talk, place, start), place, start, moment)


def heard_from(talk, place, near, start):
    """The least MOMENT by which the PLACE hears near, behind start, in each WORLD, or None."""
    talk = frozen(talk)
    refuse(talk, places=(place, near), moments=(start,))
    if near == place:
        raise CanNot()
    world = deafest_of(talk, place, start)
    for moment in range(start, len(talk[2]) + 1):
        if is_lost(talk, place, start, moment):
            return None
        if near not in believed_away(talk, world, place, start, moment):
            return moment
    return None


def settled_from(talk, some, number):
    """The least MOMENT from which on each of some surely knows this SAYING or a later one."""
    talk, some = frozen(talk), frozen(some)
    refuse(talk, places=some)
    found = None
    for moment, known in reversed(list(enumerate(sure_rows(talk)))):
        if any([known[place] >> number == 0 for place in some]):
            return found
        found = moment
    return found


def refuse_asks(talk, asks):
    """What is refused for the numbers of STANDS."""
    refuse(talk, places=[place for _, place in asks], moments=[moment for moment, _ in asks])


def bounds_of(talk, asks):
    """For each STAND the triple (low, high, froms): the least and the greatest SAYING that it can
    be of, and the positions of the STANDS from which a sure road leads to it."""
    rows = sure_rows(talk)
    found = []
    for moment, place in asks:
        masks = past_masks(talk[2], 1 << place, moment)
        froms = [at for at, (time, one) in enumerate(asks) if time <= moment and has_place(masks[time], one)]
        high = len([number for number in said_in(talk) if number < moment])
        found.append((max(lot_of(rows[moment][place]), default=0), high, froms))
    return found


def are_able(bounds, sayings):
    """Whether the first STANDS can be of these SAYINGS, as many as there are."""
    for at, saying in enumerate(sayings):
        low, high, froms = bounds[at]
        if not low <= saying <= high:
            return False
        # Who is told surely by another STAND is of no earlier SAYING than that.
        if any([one < len(sayings) and sayings[one] > saying for one in froms]):
            return False
    return True


def can_be_of(talk, asks, sayings):
    """Whether, in one WORLD, the PLACES can be of these SAYINGS at their STANDS."""
    talk, asks = frozen(talk), frozen(asks)
    refuse_asks(talk, asks)
    return are_able(bounds_of(talk, asks), frozen(sayings))


def late_miss(talk, book, asks, families, lots, version):
    """The least sayings with which writes and a read that go by them miss it; None without any."""
    talk, book, asks = frozen(talk), frozen(book), frozen(asks)
    families, lots = frozen(families), frozen(lots)
    refuse_asks(talk, asks)
    refuse(book, ages=(version,))
    refuse_many(len(said_in(talk)) + 1, len(write_numbers(book[2])) + 1)
    bounds = bounds_of(talk, asks)
    rows = [()]
    for _, high, _ in bounds:
        longer = [row + (saying,) for row in rows for saying in range(high + 1)]
        rows = [row for row in longer if are_able(bounds, row)]
    pasts = [masks_behind(book, lot) for lot in lots]
    offers = [masks_of(family) for _, family in families]
    numbers, missed = write_numbers(book[2]), writes_from(book[2], version)
    known = {}
    for row in rows:
        if all([has_room_for(known, offers, pasts, number, saying, row[-1])
                for number, saying in zip(numbers, row) if number in missed]):
            return row
    return None


def refuse_many(ways, length):
    """Raises TooMany if so many ways, so often, are too many rows."""
    rows = 1
    for _ in range(length):
        rows = rows * ways
    if rows > MOST_ROWS:
        raise TooMany()


def has_room_for(known, offers, pasts, number, saying, reading):
    """Whether the write of DEED number, going by one SAYING, has room beside those asked by
    another one; known keeps it."""
    key = (number, saying, reading)
    if key not in known:
        known[key] = first_free(offers[saying], pasts[reading][number + 1]) is not None
    return known[key]
