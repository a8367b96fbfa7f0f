"""What DEEDS are and do, for BOOKS that are tuples throughout."""

from hintring.errors import NoDeed, NoMoment, NoPlace, NoVersion

WRITES = ("put", "strike")


def refuse(book, places=(), moments=(), numbers=(), ages=()):
    """Raises for the first of these that is none of the book, kind by kind: PLACES,
    MOMENTS, numbers of DEEDS, VERSIONS."""
    for place in places:
        if not 0 <= place < book[0]:
            raise NoPlace(place)
    for moment in moments:
        if not 0 <= moment <= len(book[2]):
            raise NoMoment(moment)
    for number in numbers:
        if not 0 <= number < len(book[2]):
            raise NoDeed(number)
    for version in ages:
        if version < 1:
            raise NoVersion(version)


def is_write(deed):
    """Whether this DEED is a put or a strike."""
    return deed[0] in WRITES


def touched(deed):
    """The PLACES that this DEED touches."""
    if is_write(deed):
        return deed[3]
    return deed[2:]


def sent_to(deed):
    """The PLACES to which this DEED sends a letter."""
    if is_write(deed):
        return deed[3]
    if deed[0] == "send":
        return deed[3:]
    return ()


def coming(book, number):
    """The MOMENTS at which a letter of this DEED can come, if it sends one."""
    _, life, deeds = book
    latest = deeds[number][1] + life
    behind = range(number + 1, len(deeds) + 1)
    return tuple([moment for moment in behind if deeds[moment - 1][1] <= latest])


def write_numbers(deeds):
    """The numbers of the writes among these DEEDS."""
    return tuple([number for number, deed in enumerate(deeds) if is_write(deed)])


def writes_from(deeds, version):
    """The numbers of the writes of this VERSION and of later ones."""
    return tuple([number for number in write_numbers(deeds) if deeds[number][2] >= version])


def write_with(deeds, version):
    """The number of the write of this VERSION; None if there is none."""
    for number in write_numbers(deeds):
        if deeds[number][2] == version:
            return number
    return None
