"""Strikes: deletions that are forgotten behind a grace, and what comes back then."""

from hintring.comebacks import comeback_of, ends_in, timed_book
from hintring.deeds import refuse, write_with
from hintring.errors import NoVersion, TooMany, Unfit
from hintring.instead import all_told
from hintring.plain import frozen, is_number, is_tuple
from hintring.plays import played_with_ends
from hintring.worlds import is_world, told_of

MOST_LOTS = 1000


def with_ends(book, grace):
    """The BOOK with one wait more for each STRIKE, where it ends."""
    return timed_book(frozen(book), grace)


def ended(book, grace, moment):
    """The set of the VERSIONS of the STRIKES that have ended at this MOMENT."""
    book = frozen(book)
    refuse(book, moments=(moment,))
    return ended_at(ends_in(book, grace), moment)


def ended_at(ends, moment):
    """The set of the VERSIONS that end ahead of a DEED ahead of this MOMENT."""
    return tuple(sorted([version for number in ends if number < moment for version in ends[number]]))


def cells_in_time(book, world, grace, moment):
    """What each PLACE holds at this MOMENT, with this grace."""
    book = frozen(book)
    refuse(book, moments=(moment,))
    return played_with_ends(book, frozen(world), ends_in(book, grace))[0][moment]


def refuse_many(book):
    """Raises TooMany if STRIKES and the PUTS behind the first one can be taken in too many ways."""
    ways = 1
    struck = False
    for deed in book[2]:
        struck = struck or deed[0] == "strike"
        if deed[0] == "strike" or (struck and deed[0] == "put"):
            ways = ways * len(deed[4])
    if ways > MOST_LOTS:
        raise TooMany()


def remnants(book, version, moment):
    """The set of the PLACES that can hold a PUT earlier than this STRIKE at this MOMENT."""
    book = frozen(book)
    refuse(book, moments=(moment,), ages=(version,))
    many, life, deeds = book
    number = write_with(deeds, version)
    if number is None:
        raise NoVersion(version)
    if deeds[number][0] == "put":
        raise Unfit()
    refuse_many(book)
    puts = [deed[2] for deed in deeds if deed[0] == "put" and deed[2] < version]
    ahead = (many, life, deeds[:moment])
    return tuple([place for place in range(many) if any([told in puts for told in all_told(ahead, (place,))])])


def comeback(book, grace, some):
    """A MOMENT and a WORLD of with_ends in which some bring back then; None if there is none."""
    book, some = frozen(book), frozen(some)
    refuse(book, places=some)
    refuse_many(book)
    return comeback_of(book, grace, some)


def is_comeback(book, grace, some, thing):
    """Whether thing is a MOMENT and a WORLD of with_ends in which some bring back then."""
    book, some = frozen(book), frozen(some)
    refuse(book, places=some)
    timed = timed_book(book, grace)
    if not is_tuple(thing, 2) or not is_number(thing[0]) or not 0 <= thing[0] <= len(timed[2]):
        return False
    if not is_world(timed, thing[1]):
        return False
    moment, world = thing
    ends = ends_in(timed, grace)
    told = told_of(played_with_ends(timed, world, ends)[0][moment], some)
    puts = [deed[2] for deed in timed[2] if deed[0] == "put"]
    return told in puts and any([version > told for version in ended_at(ends, moment)])


def least_grace(book, some):
    """The least grace with which some bring nothing back; None if they do with each one."""
    return grace_of(frozen(book), frozen(some))


def grace_of(book, some):
    """The same of tuples."""
    refuse(book, places=some)
    refuse_many(book)
    graces = turning_graces(book)
    low, high = 0, len(graces) - 1
    if comeback_of(book, graces[high], some) is not None:
        return None
    # What comes back with a grace comes back with each smaller one, so halving finds the first.
    while low < high:
        middle = (low + high) // 2
        if comeback_of(book, graces[middle], some) is None:
            high = middle
        else:
            low = middle + 1
    return graces[low]


def turning_graces(book):
    """The ascending list of 0 and of all graces with which a STRIKE ends at another place among
    the DEEDS, or at another time among the letters that come, than with one less."""
    _, life, deeds = book
    found = [0]
    for deed in deeds:
        if deed[0] == "strike":
            for other in deeds:
                found.append(other[1] - deed[1] + 1)
                found.append(other[1] - deed[1] + life + 1)
    return sorted(set([grace for grace in found if grace >= 0]))
