"""ACTS of a STORE, and what each of them is in the BOOK of one point; all of tuples."""

from hintring.deeds import is_write
from hintring.families import by_count
from hintring.plain import are_numbers
from hintring.rings import line_from


def standing(epochs):
    """The ascending list of the NODES that stand in one of these EPOCHS."""
    return sorted(set([spot[1] for ring in epochs for spot in ring[1]]))


def owners_at(store, epoch, point):
    """The set of the OWNERS of this point in this EPOCH."""
    return tuple(sorted(line_from(store[2][epoch], point)[:store[0]]))


def is_handing(act):
    """Whether this ACT is a pour or a post."""
    return act[0] in ("pour", "post")


def is_act(copies, epochs, nodes, act):
    """Whether this is, by itself, an ACT of a STORE with so many copies and these EPOCHS, in
    which just these NODES stand."""
    if not isinstance(act, tuple) or len(act) < 2 or not are_numbers(act[1:]) or act[1] < 0:
        return False
    if is_write(act):
        return len(act) == 6 and is_write_act(copies, epochs, act)
    if is_handing(act):
        return len(act) == 6 and is_handing_act(epochs[0][0], nodes, act)
    if act[0] == "crash":
        return len(act) == 3 and act[2] in nodes
    return act[0] == "pause" and len(act) == 2


def is_write_act(copies, epochs, act):
    """Whether the numbers of this write fit."""
    _, _, version, point, epoch, need = act
    if version < 1 or not 0 <= point < epochs[0][0] or not 0 <= epoch < len(epochs):
        return False
    return 1 <= need <= len(line_from(epochs[epoch], point)[:copies])


def is_handing_act(points, nodes, act):
    """Whether the numbers of this pour or post fit."""
    _, _, one, other, first, last = act
    if one == other or one not in nodes or other not in nodes:
        return False
    return 0 <= first < points and 0 <= last < points


def belongs(act, point):
    """Whether this point is one of those of a pour or post."""
    first, last = act[4:]
    if first <= last:
        return first <= point <= last
    return point >= first or point <= last


def all_of(kind, tick, version, homes, need):
    """The write of this kind whose family are all LOTS of need of these homes, or of all of them
    if they are fewer."""
    return kind, tick, version, homes, by_count(homes, min(need, len(homes)))


def deed_at(store, act, point):
    """The DEED of this ACT in the BOOK of this point."""
    if is_write(act) and act[3] == point:
        kind, tick, version, _, epoch, need = act
        return all_of(kind, tick, version, owners_at(store, epoch, point), need)
    if is_handing(act) and belongs(act, point):
        return ("copy" if act[0] == "pour" else "send",) + act[1:4]
    if act[0] == "crash":
        return ("lose",) + act[1:]
    return "wait", act[1]


def book_at(store, point):
    """The BOOK of this point."""
    _, life, epochs, acts = store
    many = max(standing(epochs), default=0) + 1
    return many, life, tuple([deed_at(store, act, point) for act in acts])


def trial_book_at(store, trial, point):
    """The BOOK of this TRIAL at this point."""
    number, epoch, need, _, _ = trial
    many, life, deeds = book_at(store, point)
    rows = [("wait", deed[1]) if is_write(deed) else deed for deed in deeds]
    tick = 0
    if len(deeds) > 0:
        tick = deeds[min(number, len(deeds) - 1)][1]
    put = all_of("put", tick, 1, owners_at(store, epoch, point), need)
    return many, life, tuple(rows[:number] + [put] + rows[number:])


def starts_in(store):
    """The ascending list of the points at which a STRETCH starts."""
    _, _, epochs, acts = store
    points = epochs[0][0]
    found = [(spot[0] + 1) % points for ring in epochs for spot in ring[1]]
    for act in acts:
        if is_handing(act):
            found = found + [act[4], (act[5] + 1) % points]
    return sorted(set(found))
