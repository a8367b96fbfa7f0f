"""The whole store: all keys of a ring, and where reads can miss what was written."""

from hintring.acts import book_at, is_act, owners_at, standing, starts_in, trial_book_at
from hintring.deeds import is_write
from hintring.errors import NoEpoch, Unfit
from hintring.misses import miss_world, missed_versions, worst_lot
from hintring.moves import dealt_in
from hintring.plain import are_numbers, ascends, frozen, is_number, is_tuple
from hintring.rings import is_epochs, refuse_point

MOST_OWNERS = 4


def is_store(thing):
    """Whether thing is a STORE."""
    if not is_tuple(thing, 4):
        return False
    copies, life, epochs, acts = thing
    if not is_number(copies) or not 1 <= copies <= MOST_OWNERS or not is_number(life) or life < 0:
        return False
    if not is_epochs(epochs) or not isinstance(acts, tuple):
        return False
    nodes = standing(epochs)
    if not all([is_act(copies, epochs, nodes, act) for act in acts]):
        return False
    if any([one[1] > other[1] for one, other in zip(acts, acts[1:])]):
        return False
    return ascends([act[2] for act in acts if is_write(act)])


def is_trial(store, thing):
    """Whether thing is a TRIAL of the STORE."""
    copies, _, epochs, acts = frozen(store)
    if not is_tuple(thing, 5) or not are_numbers(thing):
        return False
    number, epoch, need, reader, asked = thing
    if not 0 <= number <= len(acts) or not all([0 <= one < len(epochs) for one in (epoch, reader)]):
        return False
    return 1 <= need <= copies and 1 <= asked <= copies


def refuse_epochs(store, numbers):
    """Raises NoEpoch for the first of these that is none of an EPOCH of the STORE."""
    for number in numbers:
        if not 0 <= number < len(store[2]):
            raise NoEpoch(number)


def refuse_trial(store, trial):
    """Raises NoEpoch for the first number of an EPOCH in this TRIAL that is none."""
    refuse_epochs(store, (trial[1], trial[3]))


def stretches(store):
    """The tuple of all STRETCHES, ascending."""
    return stretches_in(frozen(store))


def stretches_in(store):
    """The same of tuples."""
    points, starts = store[2][0][0], starts_in(store)
    if len(starts) == 0:
        return ((0, points - 1),)
    following = starts[1:] + starts[:1]
    return tuple([(first, (start - 1) % points) for first, start in zip(starts, following)])


def owner_lot(store, epoch, point):
    """The set of the OWNERS of this point in this EPOCH."""
    store = frozen(store)
    refuse_epochs(store, (epoch,))
    refuse_point(store[2][0][0], point)
    return owners_at(store, epoch, point)


def book_of(store, point):
    """The BOOK of this point."""
    store = frozen(store)
    refuse_point(store[2][0][0], point)
    return book_at(store, point)


def missed(store, epoch, asked):
    """The set of the VERSIONS that reads of so many OWNERS of their points in this EPOCH can miss."""
    store = frozen(store)
    refuse_epochs(store, (epoch,))
    found = []
    for point in sorted(set([act[3] for act in store[3] if is_write(act)])):
        owners = owners_at(store, epoch, point)
        found = found + list(missed_versions(book_at(store, point), owners, min(asked, len(owners))))
    return tuple(sorted(found))


def trial_book(store, trial, point):
    """The BOOK of this TRIAL at this point."""
    store, trial = frozen(store), frozen(trial)
    refuse_trial(store, trial)
    refuse_point(store[2][0][0], point)
    return trial_book_at(store, trial, point)


def weak_lot(store, trial, point):
    """The least LOT by which this TRIAL fails at this point; None if it does not."""
    owners = owners_at(store, trial[3], point)
    return worst_lot(trial_book_at(store, trial, point), owners, min(trial[4], len(owners)), 1)


def fails_at(store, trial, point):
    """Whether this TRIAL fails at this point."""
    store, trial = frozen(store), frozen(trial)
    refuse_trial(store, trial)
    refuse_point(store[2][0][0], point)
    return weak_lot(store, trial, point) is not None


def weak_in(store, trial):
    """The list of the STRETCHES at whose points this TRIAL fails, of tuples."""
    return [stretch for stretch in stretches_in(store) if weak_lot(store, trial, stretch[0]) is not None]


def weak_stretches(store, trial):
    """The tuple of the STRETCHES at whose points this TRIAL fails, ascending."""
    store, trial = frozen(store), frozen(trial)
    refuse_trial(store, trial)
    return tuple(weak_in(store, trial))


def is_safe(store, trial):
    """Whether this TRIAL fails nowhere."""
    return weak_stretches(store, trial) == ()


def weak_point(store, trial):
    """Where this TRIAL fails first: the point, the least LOT and a WORLD; None if it is safe."""
    store, trial = frozen(store), frozen(trial)
    refuse_trial(store, trial)
    rows = weak_in(store, trial)
    if len(rows) == 0:
        return None
    point = rows[0][0]
    some = weak_lot(store, trial, point)
    return point, some, miss_world(trial_book_at(store, trial, point), some, 1)


def least_askers(store, trial):
    """The least number of asked with which this TRIAL fails nowhere; None if none does."""
    store, trial = frozen(store), frozen(trial)
    refuse_trial(store, trial)
    for asked in range(1, store[0] + 1):
        if len(weak_in(store, trial[:4] + (asked,))) == 0:
            return asked
    return None


def safe_numbers(store, epoch, need, reader, asked):
    """The set of the numbers with which the TRIAL of these is safe."""
    store = frozen(store)
    refuse_epochs(store, (epoch, reader))
    return tuple([number for number in range(len(store[3]) + 1)
                  if len(weak_in(store, (number, epoch, need, reader, asked))) == 0])


def with_ring(store, ring, tick):
    """The STORE with one EPOCH more, and with the pours to those who come in by it."""
    store, ring = frozen(store), frozen(ring)
    copies, life, epochs, acts = store
    pours = []
    for first, last in stretches_in((copies, life, (epochs[-1], ring), ())):
        for one, other in dealt_in(epochs[-1], ring, copies, first)[2]:
            pours.append(("pour", tick, one, other, first, last))
    grown = copies, life, epochs + (ring,), acts + tuple(pours)
    if not is_store(grown):
        raise Unfit()
    return grown
