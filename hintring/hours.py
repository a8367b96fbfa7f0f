"""Hours: by when RULES that copy again and again have surely handed a VERSION on."""

from hintring.errors import CanNot, NoPlace
from hintring.plain import frozen, is_lot, is_number, is_tuple


def is_web(thing):
    """Whether thing is a WEB, of whatever size."""
    if not is_tuple(thing, 2):
        return False
    many, rules = thing
    if not is_number(many) or many < 1 or not isinstance(rules, tuple):
        return False
    return all([is_rule(many, rule) for rule in rules])


def is_rule(many, rule):
    """Whether this is a RULE between so many PLACES."""
    if not is_tuple(rule, 5) or not all([is_number(part) for part in rule[2:]]):
        return False
    kind, places, every, start, stop = rule
    if every < 1 or start < 0 or stop < start:
        return False
    if kind == "meet":
        return is_lot(places, many) and len(places) >= 2
    if kind != "copy" or not is_tuple(places, 2) or not all([is_number(place) for place in places]):
        return False
    return all([0 <= place < many for place in places]) and places[0] != places[1]


def refuse_places(web, places):
    """Raises NoPlace for the first of these that is none of the WEB."""
    for place in places:
        if not 0 <= place < web[0]:
            raise NoPlace(place)


def promised(rule, hour):
    """By when the RULE hands on what one of it holds at this HOUR; -1 if it promises nothing."""
    _, _, every, start, stop = rule
    by = max(hour, start) + every
    if hour < 0 or by > stop:
        return -1
    return by


def givers(rule, other):
    """The PLACES from which the RULE hands on to other, ascending."""
    kind, places, _, _, _ = rule
    if kind == "copy":
        return places[:1] if places[1] == other else ()
    if other in places:
        return tuple([place for place in places if place != other])
    return ()


def hours_of(web, lot, tick):
    """The HOURS of all PLACES, of tuples."""
    many, rules = web
    rows = [-1] * many
    for place in lot:
        rows[place] = tick
    grown = True
    while grown:
        grown = False
        for rule in rules:
            told = [rows[place] for place in rule[1] if rows[place] >= 0]
            takers = rule[1]
            if rule[0] == "copy":
                told = [rows[rule[1][0]]]
                takers = rule[1][1:]
            by = promised(rule, min(told, default=-1))
            for place in takers:
                if by >= 0 and (rows[place] < 0 or by < rows[place]):
                    rows[place] = by
                    grown = True
    return tuple(rows)


def hours(web, lot, tick):
    """The tuple of the HOURS of all PLACES for this LOT and this tick."""
    web, lot = frozen(web), frozen(lot)
    refuse_places(web, lot)
    return hours_of(web, lot, tick)


def hour_road(web, lot, tick, place):
    """The steps by which what the LOT took is promised to place; () if it is in the LOT."""
    web, lot = frozen(web), frozen(lot)
    refuse_places(web, lot + (place,))
    rows = hours_of(web, lot, tick)
    if rows[place] == -1:
        raise CanNot()
    steps = []
    at = place
    while at not in lot:
        number, one = first_giver(web[1], rows, at)
        steps.append((number, one, at, rows[at]))
        at = one
    return tuple(steps[::-1])


def first_giver(rules, rows, other):
    """The least pair of a RULE and of a PLACE from which it promises it to other by its HOUR."""
    for number, rule in enumerate(rules):
        for one in givers(rule, other):
            if promised(rule, rows[one]) == rows[other]:
                return number, one
    return None


def rests(web, lot, tick):
    """For each RULE the ticks strictly between which it has no deed in the late RUN."""
    web, lot = frozen(web), frozen(lot)
    refuse_places(web, lot)
    rows = hours_of(web, lot, tick)
    return tuple([rest_of(rule, rows) for rule in web[1]])


def rest_of(rule, rows):
    """The pair (low, high) of this RULE, with these HOURS."""
    kind, places, _, _, stop = rule
    told = [rows[place] if 0 <= rows[place] <= stop else stop + 1 for place in places]
    if kind == "meet":
        told = [min(told), max(told)]
    low, high = told
    if low < high:
        return low, high
    return 0, 0
