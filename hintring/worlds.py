"""Worlds: who took each write, which letters came when, and what each PLACE holds then."""

from hintring.deeds import coming, is_write, refuse
from hintring.errors import CanNot, TooMany, Unfit
from hintring.families import lot_within
from hintring.plain import are_numbers, ascends, frozen, is_set, is_tuple
from hintring.plays import cells_to, layers_to, played, world_along

MOST_STATES = 20000


def is_world(book, thing):
    """Whether thing is a WORLD of the book."""
    book = frozen(book)
    if not is_tuple(thing, len(book[2])):
        return False
    return all([is_part(book, number, part) for number, part in enumerate(thing)])


def is_part(book, number, part):
    """Whether this is what a WORLD may have for this DEED."""
    deed, moments = book[2][number], coming(book, number)
    if is_write(deed):
        return (is_tuple(part, 2) and is_set(part[0]) and are_takers(deed, part[0])
                and are_late(deed[3], moments, part[1]))
    if deed[0] == "send":
        return is_set(part) and all([moment in moments for moment in part])
    return part == ()


def are_takers(deed, lot):
    """Whether this LOT may have taken this write."""
    return all([place in deed[3] for place in lot]) and lot_within(deed[4], lot)


def are_late(homes, moments, late):
    """Whether these are ascending pairs of such a home and such a MOMENT."""
    if not isinstance(late, tuple):
        return False
    if not all([is_tuple(pair, 2) and are_numbers(pair) for pair in late]):
        return False
    return all([place in homes and moment in moments for place, moment in late]) and ascends(late)


def quiet(deeds, lots):
    """The WORLD without letters in which these LOTS take the writes, one behind another."""
    world = []
    met = 0
    for deed in deeds:
        if is_write(deed):
            world.append((lots[met], ()))
            met = met + 1
        else:
            world.append(())
    return tuple(world)


def least_world(book):
    """The WORLD in which the first LOT of its family alone takes each write; no letters."""
    deeds = frozen(book)[2]
    return quiet(deeds, [deed[4][0] for deed in deeds if is_write(deed)])


def quiet_world(book, lots):
    """The WORLD without letters in which these LOTS take the writes."""
    deeds, lots = frozen(book)[2], frozen(lots)
    wrote = [deed for deed in deeds if is_write(deed)]
    if len(lots) != len(wrote):
        raise Unfit()
    if not all([are_takers(deed, lot) for deed, lot in zip(wrote, lots)]):
        raise Unfit()
    return quiet(deeds, lots)


def full_world(book):
    """The WORLD in which all homes take, and each letter comes whenever it can."""
    book = frozen(book)
    world = []
    for number, deed in enumerate(book[2]):
        moments = coming(book, number)
        if is_write(deed):
            pairs = [(place, moment) for place in deed[3] for moment in moments]
            world.append((deed[3], tuple(pairs)))
        elif deed[0] == "send":
            world.append(moments)
        else:
            world.append(())
    return tuple(world)


def cells_at(book, world, moment):
    """What each PLACE holds at this MOMENT."""
    book = frozen(book)
    refuse(book, moments=(moment,))
    return played(book, frozen(world))[0][moment]


def cells_by_moments(book, world):
    """The list of the CELLS of all MOMENTS."""
    return played(frozen(book), frozen(world))[0]


def carried(book, world):
    """What the letter of each DEED carries, 0 where there is none."""
    return tuple(played(frozen(book), frozen(world))[1])


def tells(book, world, some, moment):
    """What a read of some tells at this MOMENT."""
    book, some = frozen(book), frozen(some)
    refuse(book, places=some, moments=(moment,))
    return told_of(played(book, frozen(world))[0][moment], some)


def told_of(cells, some):
    """What a read of some tells of these CELLS."""
    return max([cells[place] for place in some], default=0)


def fits(book, world, log):
    """Whether all reads of the LOG tell so in this WORLD."""
    rows = played(frozen(book), frozen(world))[0]
    return all([told_of(rows[moment], some) == version for moment, some, version in frozen(log)])


def joined_worlds(book, world, other):
    """The WORLD with all takers and letters that one of both has."""
    deeds, world, other = frozen(book)[2], frozen(world), frozen(other)
    return tuple([joined_parts(deed, one, two) for deed, one, two in zip(deeds, world, other)])


def joined_parts(deed, one, two):
    """What this DEED has in a WORLD, of what it has in two."""
    if is_write(deed):
        return merged(one[0], two[0]), merged(one[1], two[1])
    return merged(one, two)


def merged(one, two):
    """The ascending tuple of what one of both has."""
    return tuple(sorted(set(one + two)))


def cut_world(book, world, moment):
    """The WORLD of the BOOK with its first DEEDS alone."""
    book = frozen(book)
    refuse(book, moments=(moment,))
    return without_later(book[2][:moment], frozen(world), moment)


def hushed(book, world, moment):
    """The WORLD without the letters that come later than at this MOMENT."""
    book = frozen(book)
    refuse(book, moments=(moment,))
    return without_later(book[2], frozen(world), moment)


def without_later(deeds, world, moment):
    """What these DEEDS have in this WORLD, without letters that come later."""
    fresh = []
    for deed, part in zip(deeds, world):
        if is_write(deed):
            fresh.append((part[0], tuple([pair for pair in part[1] if pair[1] <= moment])))
        else:
            fresh.append(tuple([k for k in part if k <= moment]))
    return tuple(fresh)


def refuse_many(book, moment):
    """Raises TooMany if the DEEDS ahead of this MOMENT could leave too many STATES."""
    ahead = book[2][:moment]
    wrote = len([deed for deed in ahead if is_write(deed)])
    many = book[0] + len([deed for deed in ahead if deed[0] == "send"])
    power = 1
    # Without a write there is one STATE, however many PLACES there are.
    if wrote > 0:
        for _ in range(many):
            power = power * (wrote + 1)
            if power > MOST_STATES:
                raise TooMany()


def may_be(book, moment):
    """The ascending list of all CELLS that come at this MOMENT."""
    book = frozen(book)
    refuse(book, moments=(moment,))
    refuse_many(book, moment)
    return sorted({state[:book[0]] for state in layers_to(book, moment)[moment]})


def world_to(book, moment, cells):
    """A WORLD with these CELLS at this MOMENT; None if there is none."""
    book, cells = frozen(book), frozen(cells)
    refuse(book, moments=(moment,))
    refuse_many(book, moment)
    rows = cells_to(book, moment, cells)
    if rows is None:
        return None
    return world_along(book, rows)


def may_carry(book, number):
    """The set of what the letter of this send carries in some WORLD."""
    book = frozen(book)
    refuse(book, numbers=(number,))
    deed = book[2][number]
    if deed[0] != "send":
        raise CanNot()
    refuse_many(book, number)
    return tuple(sorted({state[deed[2]] for state in layers_to(book, number)[number]}))
