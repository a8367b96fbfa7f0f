"""What reads can tell instead: WAYS of a VERSION to those asked, past all later ones."""

from hintring.deeds import coming, is_write, refuse, write_numbers, write_with
from hintring.errors import CanNot, NoVersion, Unfit
from hintring.masks import lot_of, mask_of, masks_of
from hintring.misses import first_free, world_without
from hintring.pasts import lots_of, mask_ahead
from hintring.plain import are_numbers, frozen, is_tuple
from hintring.tables import does_begin, first_begun, table_to


def can_tell(book, some, version):
    """Whether a read of some behind all can tell this VERSION, or 0."""
    book, some = frozen(book), frozen(some)
    refuse(book, places=some)
    if version == 0:
        return world_without(book, some, 1) is not None
    return way_to(book, some, version) is not None


def told_by(book, some):
    """The set of all that a read of some behind all can tell."""
    book, some = frozen(book), frozen(some)
    refuse(book, places=some)
    return all_told(book, some)


def all_told(book, some):
    """The same of tuples."""
    told = []
    if world_without(book, some, 1) is not None:
        told.append(0)
    numbers = write_numbers(book[2])
    if len(numbers) > 0:
        table = table_to(book, some, numbers[0] + 1)
        for number in numbers:
            if first_begun(book, number, table[number + 1]) is not None:
                told.append(book[2][number][2])
    return tuple(told)


def can_bear(book, number):
    """The set of all that the letter of this send can carry."""
    book = frozen(book)
    refuse(book, numbers=(number,))
    many, life, deeds = book
    if deeds[number][0] != "send":
        raise CanNot()
    return all_told((many, life, deeds[:number]), deeds[number][2:3])


def tell_way(book, some, version):
    """A WAY that shows this VERSION to some; None if they can not tell it."""
    book, some = frozen(book), frozen(some)
    refuse(book, places=some)
    return way_to(book, some, version)


def way_to(book, some, version):
    """The same of tuples."""
    number = write_with(book[2], version)
    if number is None:
        return None
    table = table_to(book, some, number + 1)
    state = first_begun(book, number, table[number + 1])
    if state is None:
        return None
    way = [(state[2] or number + 1, state[1], number)]
    for at in range(number + 1, len(book[2])):
        behind = table[at][state]
        if behind[1] != state[1]:
            way.append((behind[2] or at + 1, behind[1], at))
        state = behind
    return tuple(way)


def tell_world(book, some, version):
    """A WORLD in which a read of some behind all tells this; None if there is none."""
    book, some = frozen(book), frozen(some)
    refuse(book, places=some)
    if version == 0:
        return world_without(book, some, 1)
    way = way_to(book, some, version)
    if way is None:
        return None
    return world_of_way(book, way, guard_masks(book, some, way))


def is_way(book, version, thing):
    """Whether thing is a WAY of this VERSION."""
    book = frozen(book)
    number = write_with(book[2], version)
    if number is None or not isinstance(thing, tuple) or len(thing) == 0:
        return False
    if not all([is_tuple(station, 3) and are_numbers(station) for station in thing]):
        return False
    moment, place, source = thing[0]
    if source != number or place not in book[2][number][3] or moment not in coming(book, number):
        return False
    if not all([is_brought(book, one, other) for one, other in zip(thing, thing[1:])]):
        return False
    ends = [station[2] for station in thing[1:]] + [len(book[2])]
    return all([does_last(book[2], station, end) for station, end in zip(thing, ends)])


def is_brought(book, one, other):
    """Whether a copy or a send brings the second of these STATIONS from the first one."""
    moment, place, number = other
    if not one[0] <= number < len(book[2]):
        return False
    deed = book[2][number]
    if deed[0] not in ("copy", "send") or deed[2:] != (one[1], place):
        return False
    if deed[0] == "copy":
        return moment == number + 1
    return moment in coming(book, number)


def does_last(deeds, station, end):
    """Whether none of the DEEDS from this STATION on and below end loses its place."""
    moment, place, _ = station
    return all([deed[0] != "lose" or deed[2] != place for deed in deeds[moment:end]])


def refuse_no_way(book, way):
    """Raises Unfit for what is no WAY of a VERSION of the book."""
    ours = [deed[2] for deed in book[2] if is_write(deed)]
    if not any([is_way(book, version, way) for version in ours]):
        raise Unfit()


def guard_masks(book, some, way):
    """The GUARD of some and this WAY, as masks."""
    sent = [station[2] for station in way[1:]]
    masks = [mask_of(some)]
    for number in reversed(range(len(book[2]))):
        deed = book[2][number]
        if deed[0] == "send" and number in sent:
            masks.append(masks[-1] | (1 << deed[2]))
        else:
            masks.append(mask_ahead(deed, masks[-1]))
    return masks[::-1]


def guard(book, some, way):
    """The GUARD of some and this WAY: one LOT for each MOMENT."""
    book, some, way = frozen(book), frozen(some), frozen(way)
    refuse(book, places=some)
    refuse_no_way(book, way)
    return lots_of(guard_masks(book, some, way))


def shows(book, some, way):
    """Whether this WAY shows its VERSION to some."""
    book, some, way = frozen(book), frozen(some), frozen(way)
    refuse(book, places=some)
    refuse_no_way(book, way)
    return does_show(book, some, way, guard_masks(book, some, way))


def does_show(book, some, way, masks):
    """The same of tuples, with the GUARD as masks."""
    if way[-1][1] not in some:
        return False
    passed = [number for number in write_numbers(book[2]) if number > way[0][2]]
    return all([first_free(masks_of(book[2][number][4]), masks[number + 1]) is not None
                for number in passed])


def way_world(book, some, way):
    """The WORLD in which just the letters of this WAY come, and some tell its VERSION."""
    book, some, way = frozen(book), frozen(some), frozen(way)
    refuse(book, places=some)
    refuse_no_way(book, way)
    masks = guard_masks(book, some, way)
    if not does_show(book, some, way, masks):
        raise CanNot()
    return world_of_way(book, way, masks)


def world_of_way(book, way, masks):
    """The same for a WAY that shows its VERSION, with the GUARD as masks."""
    brought = {number: (place, moment) for moment, place, number in way}
    world = []
    for number, deed in enumerate(book[2]):
        if is_write(deed):
            at = 0
            if number > way[0][2]:
                at = first_free(masks_of(deed[4]), masks[number + 1])
            pairs = [brought[number]] if number in brought else []
            world.append((deed[4][at], tuple(pairs)))
        elif deed[0] == "send" and number in brought:
            world.append((brought[number][1],))
        else:
            world.append(())
    return tuple(world)


def states(book, some, version):
    """The table of this VERSION: an ascending tuple of STATES."""
    book, some = frozen(book), frozen(some)
    refuse(book, places=some)
    number = write_with(book[2], version)
    if number is None:
        raise NoVersion(version)
    table = table_to(book, some, number + 1)
    return tuple(sorted([(moment, lot_of(mask), place, comes)
                         for moment in table for mask, place, comes in table[moment]]))


def begins(book, version, state):
    """Whether this VERSION can come to a STATE of its table that is right behind its write."""
    book, state = frozen(book), frozen(state)
    number = write_with(book[2], version)
    if number is None:
        raise NoVersion(version)
    moment, _, place, comes = state
    return moment == number + 1 and does_begin(book, number, (0, place, comes))
