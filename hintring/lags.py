"""Lags: how far behind a write a read must be so as not to miss it, by the HOURS."""

from hintring.hours import hours_of, refuse_places
from hintring.plain import frozen


def hour_in(rows, some):
    """The least HOUR of one of some; -1 if there is none."""
    return min([rows[place] for place in some if rows[place] >= 0], default=-1)


def lag_of(rows, some, tick):
    """The lag of a read of some, with these HOURS; -1 if there is none."""
    hour = hour_in(rows, some)
    if hour < 0:
        return -1
    return hour - tick


def lags_of(web, family, lots, tick):
    """The list of triples (lag, lot, some), by ascending (lot, some)."""
    found = []
    for lot in family:
        rows = hours_of(web, lot, tick)
        for some in lots:
            found.append((lag_of(rows, some, tick), lot, some))
    return found


def worst_of(lags):
    """The greatest of these lags; -1 if one is -1."""
    if min(lags) < 0:
        return -1
    return max(lags)


def lag(web, family, lots, tick):
    """The least number of ticks behind which no read of one of lots can miss it; -1 if none."""
    rows = lags_of(frozen(web), frozen(family), frozen(lots), tick)
    return worst_of([row[0] for row in rows])


def far_lots(web, family, lots, tick):
    """The least pair (lot, some) that alone has this lag."""
    rows = lags_of(frozen(web), frozen(family), frozen(lots), tick)
    worst = worst_of([row[0] for row in rows])
    return min([(lot, some) for told, lot, some in rows if told == worst])


def least_told(web, family, lots, dones, tick):
    """The least VERSION that a read of one of lots at tick can tell; 0 for none."""
    web, family, lots = frozen(web), frozen(family), frozen(lots)
    told = [0] * len(lots)
    # One RUN is late for all VERSIONS at once, so those that can be missed are missed together.
    for version, done in sorted(frozen(dones)):
        rows = [hours_of(web, lot, done) for lot in family]
        for at, some in enumerate(lots):
            if all([0 <= hour_in(row, some) <= tick for row in rows]):
                told[at] = version
    return min(told)


def longest_every(web, family, lots, tick, limit, places):
    """The greatest `every` of a further meeting of places with which the lag is in the limit."""
    web, family, lots, places = frozen(web), frozen(family), frozen(lots), frozen(places)
    refuse_places(web, places)
    low, high = 0, limit
    # A meeting that comes less often never makes an HOUR earlier, so halving finds the last one.
    while low < high:
        middle = (low + high + 1) // 2
        rule = ("meet", places, middle, tick, tick + limit)
        rows = lags_of((web[0], web[1] + (rule,)), family, lots, tick)
        if 0 <= worst_of([row[0] for row in rows]) <= limit:
            low = middle
        else:
            high = middle - 1
    return low


def hour_grace(web, family, tick, life):
    """The greatest HOUR behind tick, plus life + 1; -1 if one is -1."""
    web = frozen(web)
    told = [hour for lot in frozen(family) for hour in hours_of(web, lot, tick)]
    if min(told) < 0:
        return -1
    return max(told) - tick + life + 1
