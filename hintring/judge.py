"""One judge: CLAIMS, whether they stand, and what shows that they do or do not."""

from hintring.books import last
from hintring.claims import is_shaped
from hintring.deeds import writes_from
from hintring.errors import Unfit
from hintring.misses import hold_paper
from hintring.moves import heirs, is_heirs
from hintring.papers import found_paper
from hintring.pasts import is_road
from hintring.plain import frozen, is_number, is_tuple
from hintring.proofs import is_proof


def is_claim(thing):
    """Whether thing is a CLAIM."""
    return is_shaped(thing)


def fit_claim(claim):
    """This CLAIM, of tuples; Unfit is raised if it is none."""
    claim = frozen(claim)
    if not is_shaped(claim):
        raise Unfit()
    return claim


def reasoned_claim(claim):
    """The same for a CLAIM for which there can be a REASON."""
    claim = fit_claim(claim)
    if claim[0] not in ("kept", "heirs"):
        raise Unfit()
    return claim


def stands(claim):
    """Whether it is as the CLAIM says."""
    return found_paper(fit_claim(claim)) is None


def paper_against(claim):
    """A PAPER against the CLAIM; None if it stands."""
    return found_paper(fit_claim(claim))


def is_paper_against(claim, thing):
    """Whether thing is a PAPER against the CLAIM."""
    return is_proof(fit_claim(claim), thing)


def first_fallen(claims):
    """The number of the first CLAIM that does not stand, and a PAPER; None if all stand."""
    fit = [fit_claim(claim) for claim in claims]
    for number, claim in enumerate(fit):
        paper = found_paper(claim)
        if paper is not None:
            return number, paper
    return None


def reason_for(claim):
    """A REASON for the CLAIM."""
    claim = reasoned_claim(claim)
    if claim[0] == "heirs":
        reason = heirs(claim[1])
    else:
        _, book, some, version = claim
        reason = hold_paper(book, some, version)
    if reason is None:
        raise Unfit()
    return reason


def is_reason_for(claim, thing):
    """Whether thing is a REASON for the CLAIM."""
    claim = reasoned_claim(claim)
    if claim[0] == "heirs":
        return is_heirs(claim[1], thing)
    return is_hold(claim[1:], thing)


def is_hold(parts, thing):
    """Whether it is the number of a write and roads by which what it wrote surely comes."""
    book, some, version = parts
    if not is_tuple(thing, 2) or not is_number(thing[0]) or not isinstance(thing[1], tuple):
        return False
    number, roads = thing
    if number not in writes_from(book[2], version):
        return False
    _, _, _, homes, family = book[2][number]
    if not all([is_road_home(book, some, homes, number, road) for road in roads]):
        return False
    firsts = [road[0] for road in roads]
    return all([any([place in firsts for place in lot]) for lot in family])


def is_road_home(book, some, homes, number, thing):
    """Whether it is a road from one of these homes, right behind this DEED, to some behind all."""
    if not isinstance(thing, tuple) or len(thing) == 0 or thing[0] not in homes:
        return False
    return is_road(book, some, last(book), thing[0], number + 1, thing)
