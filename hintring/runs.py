"""Sorted runs at one place: what it shows of each key, and what may be poured together."""

from hintring.errors import Unfit
from hintring.plain import are_numbers, ascends, choices, frozen, is_set, is_tuple


def is_runs(thing):
    """Whether thing is a tuple of runs."""
    return isinstance(thing, tuple) and all([is_run(run) for run in thing])


def is_run(run):
    """Whether this is an ascending tuple of pairs of a key and a VERSION, with unlike keys."""
    if not isinstance(run, tuple) or not all([is_tuple(pair, 2) and are_numbers(pair) for pair in run]):
        return False
    if not all([key >= 0 and version >= 1 for key, version in run]):
        return False
    return ascends([pair[0] for pair in run])


def latest_by_keys(runs):
    """For each key that these runs have its latest VERSION in them."""
    found = {}
    for run in runs:
        for key, version in run:
            found[key] = max(found.get(key, 0), version)
    return found


def shown_by_keys(runs, struck):
    """For each key of which a PUT is shown by these runs this PUT."""
    latest = latest_by_keys(runs)
    return {key: latest[key] for key in latest if latest[key] not in struck}


def shown(runs, struck, key):
    """What the place shows of this key: its latest VERSION if that is a PUT, else 0."""
    return shown_by_keys(frozen(runs), frozen(struck)).get(key, 0)


def refuse_numbers(runs, numbers):
    """Raises Unfit for what is no set of positions of runs, or none at all."""
    if not is_set(numbers) or len(numbers) == 0 or not all([0 <= at < len(runs) for at in numbers]):
        raise Unfit()


def runs_at(runs, numbers):
    """The runs at these positions."""
    return tuple([runs[at] for at in numbers])


def runs_beside(runs, numbers):
    """The runs at all other positions."""
    return tuple([run for at, run in enumerate(runs) if at not in numbers])


def may_drop(runs, struck, numbers, key):
    """Whether the latest of key in these runs is a STRIKE that no PUT in the others needs."""
    runs, struck, numbers = frozen(runs), frozen(struck), frozen(numbers)
    refuse_numbers(runs, numbers)
    latest = latest_by_keys(runs_at(runs, numbers)).get(key, 0)
    return latest in struck and does_let_go(struck, latest, latest_by_keys(runs_beside(runs, numbers)).get(key, 0))


def does_let_go(struck, strike, other):
    """Whether this STRIKE may be left out where other is the latest elsewhere, or 0."""
    return other == 0 or other in struck or other > strike


def new_run(runs, struck, numbers, version):
    """The run into which these runs are poured, without the STRIKES up to version that may go."""
    latest = latest_by_keys(runs_at(runs, numbers))
    others = latest_by_keys(runs_beside(runs, numbers))
    thrown = [key for key in latest if latest[key] in struck and latest[key] <= version
              and does_let_go(struck, latest[key], others.get(key, 0))]
    return tuple([(key, latest[key]) for key in sorted(latest) if key not in thrown])


def poured(runs, struck, numbers, version):
    """The RUNS behind this pour."""
    runs, struck, numbers = frozen(runs), frozen(struck), frozen(numbers)
    refuse_numbers(runs, numbers)
    return runs_beside(runs, numbers) + (new_run(runs, struck, numbers, version),)


def taking_order(runs, struck, numbers, version):
    """The least order in which the poured runs can be taken away unseen; None if there is none."""
    runs, struck, numbers = frozen(runs), frozen(struck), frozen(numbers)
    refuse_numbers(runs, numbers)
    kept = runs_beside(runs, numbers) + (new_run(runs, struck, numbers, version),)
    wanted = shown_by_keys(runs, struck)
    orders = {}
    for size in range(len(numbers) + 1):
        for left in choices(numbers, size):
            orders[left] = None
            if shown_by_keys(kept + runs_at(runs, left), struck) == wanted:
                orders[left] = order_of(orders, left)
    return orders[numbers]


def order_of(orders, left):
    """The least order of those left, where orders has that of each part of them or None."""
    if left == ():
        return ()
    for number in left:
        rest = tuple([one for one in left if one != number])
        if orders[rest] is not None:
            return (number,) + orders[rest]
    return None
