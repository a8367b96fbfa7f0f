"""Books: DEEDS one behind another, and the books that are made of them."""

from hintring.deeds import coming, is_write, refuse, sent_to, touched, write_numbers, write_with
from hintring.errors import CanNot, NoVersion, Unfit
from hintring.families import family_with_names, is_family, lot_with_names
from hintring.plain import ascends, frozen, is_lot, is_number, is_tuple

MOST_PLACES = 8
MOST_DEEDS = 24
GREATEST = 1000000000


def is_deed(many, thing):
    """Whether thing is, by itself, a DEED of a BOOK with so many PLACES."""
    if many < 1 or not isinstance(thing, tuple) or len(thing) < 2:
        return False
    if not is_number(thing[1]) or thing[1] < 0:
        return False
    kind = thing[0]
    if kind in ("put", "strike"):
        return len(thing) == 5 and is_write_end(many, thing[2:])
    if kind in ("copy", "send"):
        return len(thing) == 4 and are_places(many, thing[2:]) and thing[2] != thing[3]
    if kind == "lose":
        return len(thing) == 3 and are_places(many, thing[2:])
    return kind == "wait" and len(thing) == 2


def are_places(many, row):
    """Whether these are numbers of PLACES."""
    return all([is_number(place) and 0 <= place < many for place in row])


def is_write_end(many, end):
    """Whether these are the VERSION, the homes and the family of a write."""
    version, homes, family = end
    if not is_number(version) or version < 1:
        return False
    if not is_lot(homes, many) or not is_family(family, many):
        return False
    return all([place in homes for lot in family for place in lot])


def is_book(thing):
    """Whether thing is a BOOK, of whatever size."""
    if not is_tuple(thing, 3):
        return False
    many, life, deeds = thing
    if not is_number(many) or many < 1 or not is_number(life) or life < 0:
        return False
    if not isinstance(deeds, tuple) or not all([is_deed(many, deed) for deed in deeds]):
        return False
    if any([one[1] > other[1] for one, other in zip(deeds, deeds[1:])]):
        return False
    return ascends([deed[2] for deed in deeds if is_write(deed)])


def last(book):
    """The last MOMENT."""
    return len(book[2])


def tick_at(book, moment):
    """The tick of the DEED right ahead of this MOMENT; 0 if there is none."""
    book = frozen(book)
    refuse(book, moments=(moment,))
    if moment == 0:
        return 0
    return book[2][moment - 1][1]


def writes(book):
    """The set of the numbers of the writes."""
    return write_numbers(frozen(book)[2])


def versions(book):
    """The set of the VERSIONS of the writes."""
    deeds = frozen(book)[2]
    return tuple([deeds[number][2] for number in write_numbers(deeds)])


def number_of(book, version):
    """The number of the write of this VERSION."""
    number = write_with(frozen(book)[2], version)
    if number is None:
        raise NoVersion(version)
    return number


def is_strike(book, version):
    """Whether this VERSION is a STRIKE."""
    return book[2][number_of(book, version)][0] == "strike"


def comings(book, number):
    """The set of the MOMENTS at which a letter of this DEED can come."""
    book = frozen(book)
    refuse(book, numbers=(number,))
    if sent_to(book[2][number]) == ():
        return ()
    return coming(book, number)


def letters(book):
    """The pairs (number, place): a letter of this DEED goes to this PLACE."""
    deeds = frozen(book)[2]
    return tuple([(number, place) for number, deed in enumerate(deeds) for place in sent_to(deed)])


def touching(book, place):
    """The set of the numbers of the DEEDS that touch this PLACE."""
    book = frozen(book)
    refuse(book, places=(place,))
    return tuple([number for number, deed in enumerate(book[2]) if place in touched(deed)])


def upto(book, moment):
    """The BOOK of the DEEDS ahead of this MOMENT."""
    book = frozen(book)
    refuse(book, moments=(moment,))
    return book[0], book[1], book[2][:moment]


def beyond(book, moment):
    """The BOOK of the DEEDS behind this MOMENT."""
    book = frozen(book)
    refuse(book, moments=(moment,))
    return book[0], book[1], book[2][moment:]


def bounded(book):
    """This same value, if it is a BOOK within all bounds; else Unfit is raised."""
    if not is_book(book) or book[0] > MOST_PLACES or len(book[2]) > MOST_DEEDS:
        raise Unfit()
    # No FAMILY of so few PLACES has more LOTS than its bound, so that one is not asked.
    greatest = [book[1]]
    for deed in book[2]:
        greatest.append(deed[1])
        if is_write(deed):
            greatest.append(deed[2])
    if max(greatest) > GREATEST:
        raise Unfit()
    return book


def joined(book, other):
    """The BOOK with the DEEDS of other behind those of book."""
    book, other = frozen(book), frozen(other)
    if book[:2] != other[:2]:
        raise Unfit()
    return bounded((book[0], book[1], book[2] + other[2]))


def with_deed(book, number, deed):
    """The BOOK with this DEED put in ahead of the one of this number."""
    book, deed = frozen(book), frozen(deed)
    many, life, deeds = book
    if number != len(deeds):
        refuse(book, numbers=(number,))
    return bounded((many, life, deeds[:number] + (deed,) + deeds[number:]))


def without_deed(book, number):
    """The BOOK without this DEED."""
    book = frozen(book)
    refuse(book, numbers=(number,))
    many, life, deeds = book
    return many, life, deeds[:number] + deeds[number + 1:]


def do_commute(book, number):
    """Whether this DEED and the next one commute."""
    book = frozen(book)
    refuse(book, numbers=(number, number + 1))
    one, other = book[2][number], book[2][number + 1]
    if one[1] != other[1] or (is_write(one) and is_write(other)):
        return False
    return all([place not in touched(other) for place in touched(one)])


def exchanged(book, number):
    """The BOOK with this DEED and the next one exchanged."""
    if not do_commute(book, number):
        raise CanNot()
    many, life, deeds = frozen(book)
    return many, life, deeds[:number] + (deeds[number + 1], deeds[number]) + deeds[number + 2:]


def renamed(book, names):
    """The BOOK with names[p] in the place of each PLACE p."""
    many, life, deeds = frozen(book)
    names = frozen(names)
    if sorted(names) != list(range(many)):
        raise Unfit()
    return bounded((many, life, tuple([renamed_deed(deed, names) for deed in deeds])))


def renamed_deed(deed, names):
    """The DEED with names[p] in the place of each PLACE p."""
    if is_write(deed):
        return deed[:3] + (lot_with_names(deed[3], names), family_with_names(deed[4], names))
    return deed[:2] + tuple([names[place] for place in deed[2:]])


def spread(book, numbers):
    """The BOOK with these VERSIONS in the place of its own, in their order."""
    many, life, deeds = frozen(book)
    numbers = frozen(numbers)
    if len(numbers) != len(write_numbers(deeds)):
        raise Unfit()
    fresh = list(deeds)
    for number, version in zip(write_numbers(deeds), numbers):
        fresh[number] = deeds[number][:2] + (version,) + deeds[number][3:]
    return bounded((many, life, tuple(fresh)))


def later(book, ticks):
    """The BOOK with each tick so much greater."""
    many, life, deeds = frozen(book)
    return bounded((many, life, tuple([(deed[0], deed[1] + ticks) + deed[2:] for deed in deeds])))


def widened(book, many):
    """The BOOK with so many PLACES."""
    book = frozen(book)
    if many < book[0]:
        raise Unfit()
    return bounded((many,) + book[1:])
