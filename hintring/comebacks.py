"""How PUTS come back behind STRIKES that have ended: all that can be, MOMENT by MOMENT.

A target is a pair (low, high): any write of a VERSION from low to high may come back. What
matters of a WORLD is then where later VERSIONS are, and which PLACES the target can have
come to: a STATE is a triple of the CELLS of these VERSIONS, of those PLACES as a mask, and of
the sends that set out with the target, as a mask of their numbers."""

from hintring.deeds import coming, is_write
from hintring.masks import has_place, mask_of


def timed_book(book, grace):
    """The BOOK with a wait for each STRIKE, where it ends."""
    many, life, deeds = book
    rows = list(deeds)
    for deed in deeds:
        if deed[0] == "strike":
            tick = deed[1] + grace
            at = rows.index(deed) + 1
            while at < len(rows) and rows[at][1] < tick:
                at = at + 1
            rows.insert(at, ("wait", tick))
    return many, life, tuple(rows)


def ends_in(book, grace):
    """For the number of each DEED ahead of which STRIKES end, the list of their VERSIONS."""
    deeds = book[2]
    found = {}
    for number, deed in enumerate(deeds):
        if deed[0] == "strike":
            behind = [at for at in range(number + 1, len(deeds)) if deeds[at][1] >= deed[1] + grace]
            if len(behind) > 0:
                found.setdefault(behind[0], []).append(deed[2])
    return found


def targets_of(deeds):
    """What may come back: all PUTS ahead of the first STRIKE at once, and each one between
    two STRIKES alone."""
    strikes = [deed[2] for deed in deeds if deed[0] == "strike"]
    if len(strikes) == 0:
        return []
    puts = [deed[2] for deed in deeds if deed[0] == "put" and deed[2] < strikes[-1]]
    found = [(put, put) for put in puts if put > strikes[0]]
    if len(found) < len(puts):
        # Whichever of the others is told, it is earlier than each STRIKE, so they are all one.
        found.append((1, strikes[0] - 1))
    return found


def comeback_of(book, grace, some):
    """A COMEBACK; None if there is none."""
    timed = timed_book(book, grace)
    ends = ends_in(timed, grace)
    comes = [coming(timed, number) for number in range(len(timed[2]))]
    for target in targets_of(timed[2]):
        found = first_back(timed, ends, comes, mask_of(some), target)
        if found is not None:
            moment, lots, aboard = found
            return moment, world_back(timed, comes, target, lots, aboard)
    return None


def first_back(timed, ends, comes, mask, target):
    """The first MOMENT at which this target comes back to the LOT of this mask, the LOTS that
    took later writes, and the sends that set out with it; None if it never does."""
    layer = {((0,) * timed[0], 0, 0): ()}
    over = False
    for number in range(len(timed[2])):
        gone = ends.get(number, [])
        over = over or any([version > target[1] for version in gone])
        comers = comers_at(timed, comes, number + 1, target)
        layer = layer_behind(timed[2][number], number, gone, target, comers, layer)
        if over:
            for state in layer:
                if state[1] & mask != 0 and blocked(state[0]) & mask == 0:
                    return number + 1, layer[state], state[2]
    return None


def blocked(cells):
    """The mask of the PLACES where a later VERSION is."""
    mask = 0
    for place, version in enumerate(cells):
        if version > 0:
            mask = mask | (1 << place)
    return mask


def layer_behind(deed, number, gone, target, comers, layer):
    """The STATES behind this DEED, of those of a layer, each with the LOTS that took later writes."""
    found = {}
    for state, lots in layer.items():
        cells, mask, aboard = state
        if len(gone) > 0:
            cells = tuple([0 if version in gone else version for version in cells])
        if is_write(deed) and deed[2] > target[1]:
            for lot in deed[4]:
                taken = tuple([deed[2] if place in lot else version for place, version in enumerate(cells)])
                found.setdefault(arrived((taken, mask & ~mask_of(lot), aboard), comers), lots + (lot,))
        else:
            behind = state_behind(deed, number, (cells, mask, aboard))
            found.setdefault(arrived(behind, comers), lots)
    return found


def state_behind(deed, number, state):
    """The STATE behind a DEED that is no later write, ahead of the letters."""
    cells, mask, aboard = state
    if deed[0] == "copy":
        _, _, one, other = deed
        if cells[one] > cells[other]:
            return cells[:other] + cells[one:one + 1] + cells[other + 1:], mask & ~(1 << other), aboard
        if has_place(mask, one) and cells[other] == 0:
            return cells, mask | (1 << other), aboard
    if deed[0] == "send" and has_place(mask, deed[2]):
        return cells, mask, aboard | (1 << number)
    if deed[0] == "lose":
        return cells[:deed[2]] + (0,) + cells[deed[2] + 1:], mask & ~(1 << deed[2]), aboard
    return state


def comers_at(timed, comes, moment, target):
    """The pairs (sends as a mask, PLACES as a mask): letters that can come at this MOMENT to
    these PLACES, if one of the sends set out with the target; of writes of the target, if 0."""
    found = []
    for number, deed in enumerate(timed[2][:moment]):
        if moment in comes[number]:
            if deed[0] == "send":
                found.append((1 << number, 1 << deed[3]))
            elif is_write(deed) and target[0] <= deed[2] <= target[1]:
                found.append((0, mask_of(deed[3])))
    return found


def arrived(state, comers):
    """The STATE with the target wherever its letters can bring it."""
    cells, mask, aboard = state
    grown = mask
    for sends, places in comers:
        if sends == 0 or sends & aboard != 0:
            grown = grown | places
    if grown == mask:
        return state
    return cells, grown & ~blocked(cells), aboard


def world_back(timed, comes, target, lots, aboard):
    """The WORLD in which these LOTS take the first later writes, all homes take each write of
    the target, and just its letters come, whenever they can."""
    world = []
    met = 0
    for number, deed in enumerate(timed[2]):
        moments = comes[number]
        if deed[0] == "send":
            world.append(moments if has_place(aboard, number) else ())
        elif not is_write(deed):
            world.append(())
        elif target[0] <= deed[2] <= target[1]:
            world.append((deed[3], tuple([(place, moment) for place in deed[3] for moment in moments])))
        elif deed[2] > target[1] and met < len(lots):
            world.append((lots[met], ()))
            met = met + 1
        else:
            world.append((deed[4][0], ()))
    return tuple(world)
