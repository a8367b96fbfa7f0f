"""The interface: each function in its file, with its arguments; lists for tuples, calls by
names, arguments that stay as they are, and returned lists that are the caller's own."""

import ast
import copy
import importlib
import inspect
import os
import unittest

ROOT = os.path.dirname(os.path.dirname(os.path.abspath(__file__)))

NAMES = {
    "rings": {
        "is_ring": "thing", "is_epochs": "thing", "line_of": "ring point", "owners_of": "ring point copies",
        "line_by_sites": "ring sites point", "owners_by_sites": "ring sites point copies", "sections": "epochs",
        "section_of": "epochs point", "points_in": "points section", "changed": "ring changes",
        "moved": "ring other copies", "least_handed": "ring other copies"},
    "books": {
        "is_deed": "many thing", "is_book": "thing", "last": "book", "tick_at": "book moment", "writes": "book",
        "versions": "book", "number_of": "book version", "is_strike": "book version", "comings": "book number",
        "letters": "book", "touching": "book place", "upto": "book moment", "beyond": "book moment",
        "joined": "book other", "with_deed": "book number deed", "without_deed": "book number",
        "do_commute": "book number", "exchanged": "book number", "renamed": "book names",
        "spread": "book numbers", "later": "book ticks", "widened": "book many"},
    "worlds": {
        "is_world": "book thing", "least_world": "book", "quiet_world": "book lots", "full_world": "book",
        "cells_at": "book world moment", "cells_by_moments": "book world", "carried": "book world",
        "tells": "book world some moment", "fits": "book world log", "joined_worlds": "book world other",
        "cut_world": "book world moment", "hushed": "book world moment", "may_be": "book moment",
        "world_to": "book moment cells", "may_carry": "book number"},
    "families": {
        "is_family": "thing many", "by_count": "homes need", "by_sites": "sites needs", "least": "lots",
        "has_lot": "family some", "room": "family some", "blockers": "family", "either": "family other",
        "both": "family other", "apart": "family other", "least_common": "family other",
        "renamed_family": "family names"},
    "pasts": {
        "past": "book some moment", "pasts_of_each": "book moment", "has_room": "book lots number",
        "rooms": "book lots", "sure_after": "book some start", "road": "book some moment place start",
        "is_road": "book some moment place start thing", "idle_deeds": "book", "without_idle": "book"},
    "misses": {
        "can_miss": "book some version", "miss_world": "book some version", "hold_paper": "book some version",
        "held_version": "book some", "most_that_miss": "book owners version",
        "worst_lot": "book owners asked version", "least_asked": "book owners version",
        "harmless_lots": "book owners version", "least_need": "book version owners asked",
        "missed_versions": "book owners asked"},
    "instead": {
        "can_tell": "book some version", "told_by": "book some", "can_bear": "book number",
        "tell_way": "book some version", "tell_world": "book some version", "is_way": "book version thing",
        "guard": "book some way", "shows": "book some way", "way_world": "book some way",
        "states": "book some version", "begins": "book version state"},
    "logs": {
        "is_log": "book thing", "can_be": "book log", "log_world": "book log",
        "next_answers": "book log moment some", "sure_lot": "book log moment owners",
        "backs": "book moment some after other", "is_rising": "book asks", "blame": "book log",
        "surely_took": "book log version", "may_have_taken": "book log version", "markings": "book log",
        "fence_of": "book log marking number", "reach_of": "book log marking version",
        "breaks_at": "book log marking"},
    "strikes": {
        "with_ends": "book grace", "ended": "book grace moment", "cells_in_time": "book world grace moment",
        "remnants": "book version moment", "comeback": "book grace some", "is_comeback": "book grace some thing",
        "least_grace": "book some"},
    "hours": {
        "is_web": "thing", "hours": "web lot tick", "hour_road": "web lot tick place", "rests": "web lot tick"},
    "lags": {
        "lag": "web family lots tick", "far_lots": "web family lots tick",
        "least_told": "web family lots dones tick", "longest_every": "web family lots tick limit places",
        "hour_grace": "web family tick life"},
    "moves": {
        "is_move": "thing", "origins": "move place", "can_lose": "move need reads",
        "losing_lot": "move need reads", "heirs": "move", "short_lot": "move",
        "is_losing_lot": "move need reads thing", "is_heirs": "move thing", "is_short_lot": "move thing",
        "least_reads": "move need", "fewest_copies": "old new away need reads",
        "four_phases": "old new need reads", "mishaps": "book phases",
        "is_mishap_lots": "book phases mishap thing", "dealt": "ring other copies point",
        "breaks": "ring changes copies"},
    "hints": {
        "is_boxes": "thing many", "keeps_to": "book boxes", "first_there": "line copies away",
        "noted_homes": "boxes line copies away", "given_back": "book boxes number",
        "counts_from": "book boxes number box", "throw_paper": "book boxes box",
        "least_gifts": "book boxes some reads version most", "fewest_falls": "book boxes version"},
    "talk": {
        "is_talk": "thing", "is_talk_world": "talk thing", "known_in": "talk world place moment",
        "surely_known": "talk place moment", "may_know": "talk place moment", "deafest": "talk place start",
        "newest": "talk place start", "may_be_away": "talk place start moment",
        "must_be_away": "talk place start moment", "heard_from": "talk place near start",
        "settled_from": "talk some number", "can_be_of": "talk asks sayings",
        "late_miss": "talk book asks families lots version"},
    "losses": {
        "trails_apart": "book takers some version", "least_cut": "book takers some version",
        "is_parted": "book takers some version cut", "least_losses": "book some version",
        "worst_cut": "book some version", "losses_borne": "book owners asked version",
        "with_cut": "book cut"},
    "mends": {
        "chain": "some", "mended": "book moment some", "helpers": "book some version",
        "cheapest_mend": "book lots version most", "mends_it": "book lots version thing",
        "enough_at": "book some lots version", "safe_from": "book lots version", "blamed": "book some version",
        "worth": "book some version number"},
    "sums": {
        "is_tree": "thing", "is_rows": "tree thing", "sum_of": "tree rows low high", "join_sums": "tree left right",
        "compare": "tree left right", "least_proof": "tree left right"},
    "runs": {
        "is_runs": "thing", "shown": "runs struck key", "may_drop": "runs struck numbers key",
        "poured": "runs struck numbers version", "taking_order": "runs struck numbers version"},
    "rounds": {
        "play": "many events", "source": "answers", "compare_put": "state seen wanted", "is_plan": "thing",
        "is_fate": "plan thing", "is_passed": "plan passing", "can_pass": "plan", "pass_fate": "plan",
        "bare_pass": "plan", "is_unjoined": "plan takes answers"},
    "store": {
        "is_store": "thing", "is_trial": "store thing", "stretches": "store", "owner_lot": "store epoch point",
        "book_of": "store point", "missed": "store epoch asked", "trial_book": "store trial point",
        "fails_at": "store trial point", "weak_stretches": "store trial", "is_safe": "store trial",
        "weak_point": "store trial", "least_askers": "store trial", "safe_numbers": "store epoch need reader asked",
        "with_ring": "store ring tick"},
    "judge": {
        "is_claim": "thing", "stands": "claim", "paper_against": "claim", "is_paper_against": "claim thing",
        "first_fallen": "claims", "reason_for": "claim", "is_reason_for": "claim thing"},
    "texts": {
        "book_text": "book", "world_text": "world", "log_text": "log", "ring_text": "ring", "read_book": "text",
        "read_world": "text", "read_log": "text", "read_ring": "text"},
    "desk": {"is_request": "thing", "reply": "board line", "replies": "many life text"}}

RING = (50, ((10, 0), (20, 1), (30, 2), (40, 0)))
OTHER = (50, ((10, 0), (20, 1), (25, 3), (30, 2), (40, 0)))
TWO_OF = ((0, 1), (0, 2), (1, 2))
BOOK = (3, 4, (("put", 0, 5, (0, 1, 2), TWO_OF), ("send", 2, 0, 1), ("wait", 2), ("lose", 6, 1),
               ("strike", 7, 8, (1, 2), ((1,), (2,)))))
WORLD = (((0, 1), ((2, 2), (2, 3))), (3,), (), (), ((2,), ()))
WAY = ((1, 0, 0), (4, 1, 1))
LOTS = ((0,), (0, 1), (1,), (1,), (2,), (2,))
FALLEN = (3, 4, (("put", 0, 5, (0, 1, 2), TWO_OF), ("lose", 2, 1), ("copy", 3, 0, 2)))
LOG = ((3, (0, 1), 5), (5, (1,), 0))
STRUCK = (3, 2, (("put", 0, 1, (0, 1, 2), TWO_OF), ("strike", 1, 2, (0, 1, 2), TWO_OF), ("copy", 5, 0, 1)))
STRUCK_WORLD = (((0, 2), ()), ((0, 1), ((1, 2),)), (), ())
WEB = (3, (("meet", (0, 1), 4, 0, 100), ("meet", (1, 2), 3, 0, 100), ("copy", (2, 0), 5, 2, 90)))
ONES = ((0,), (1,), (2,))
MOVE = ((0, 1, 2), (0, 1, 3), ((2, 3), (0, 3)))
LOSING = ((0, 1, 2), (0, 1, 3), ((0, 3),))
PHASES = ((TWO_OF, TWO_OF), (ONES, ((0, 1, 2),)))
BOXES = ((3, 0, 1), (4, 0, 2))
NOTED = (5, 2, (("put", 0, 1, (0, 2, 3), ((0, 2), (0, 3), (2, 3))), ("copy", 1, 3, 1)))
TALK = (3, 9, (("say", 0, 0), ("send", 1, 0, 1), ("copy", 2, 1, 2), ("wait", 9)))
LATE = (3, 0, (("say", 0, 0), ("copy", 1, 0, 1), ("say", 2, 0), ("copy", 3, 1, 2)))
ONE, TWO = ((0,), ((0,),)), ((1,), ((1,),))
TREE, ROWS, OTHER_ROWS = (2, 2, 97, 10), ((0, 1), (2, 4), (3, 2)), ((0, 1), (2, 5), (3, 2))
RUNS = ((0, 1), (1, 3)), ((0, 4),), ((1, 2),)
PLAN = (3, (("take", 0, TWO_OF), ("lose", 0), ("ask", 1, TWO_OF)))
PASSING = ((), (("take", 0, 0), ("take", 0, 1)), (), (("ask", 1, 0), ("ask", 1, 2)))
STORE = (3, 5, (RING, OTHER), (("put", 0, 1, 7, 0, 2), ("pour", 4, 0, 3, 21, 25), ("crash", 5, 1)))
TRIAL = (1, 0, 2, 1, 2)
KEPT, MISSED = ("kept", FALLEN, (0, 2), 5), ("kept", FALLEN, (1,), 5)

# Arguments for each function but is_.. of a thing alone.
CALLS = {
    "line_of": (RING, 15), "owners_of": (RING, 15, 2), "line_by_sites": (RING, (7, 7, 4), 41),
    "owners_by_sites": (RING, (7, 7, 4), 41, 2), "sections": ((RING, OTHER),), "section_of": ((RING, OTHER), 23),
    "points_in": (50, (40, 10)), "changed": (RING, ((1, ()), (3, (25, 26)))), "moved": (RING, OTHER, 2),
    "least_handed": (RING, OTHER, 2),
    "last": (BOOK,), "tick_at": (BOOK, 2), "writes": (BOOK,), "versions": (BOOK,), "number_of": (BOOK, 8),
    "is_strike": (BOOK, 8), "comings": (BOOK, 0), "letters": (BOOK,), "touching": (BOOK, 1), "upto": (BOOK, 2),
    "beyond": (BOOK, 2), "joined": (BOOK, (3, 4, (("wait", 9),))),
    "with_deed": (BOOK, 1, ("put", 1, 6, (0, 1), ((0,), (1,)))), "without_deed": (BOOK, 1),
    "do_commute": (BOOK, 1), "exchanged": (BOOK, 1), "renamed": (BOOK, (2, 0, 1)), "spread": (BOOK, (1, 2)),
    "later": (BOOK, 3), "widened": (BOOK, 5),
    "least_world": (BOOK,), "quiet_world": (BOOK, ((0, 1), (1, 2))), "full_world": (BOOK,),
    "cells_at": (BOOK, WORLD, 3), "cells_by_moments": (BOOK, WORLD), "carried": (BOOK, WORLD),
    "tells": (BOOK, WORLD, (1, 2), 4), "fits": (BOOK, WORLD, ((3, (1, 2), 5), (5, (2,), 8))),
    "joined_worlds": (BOOK, WORLD, (((1, 2), ()), (2,), (), (), ((1,), ()))), "cut_world": (BOOK, WORLD, 2),
    "hushed": (BOOK, WORLD, 2), "may_be": (BOOK, 3), "world_to": (BOOK, 3, (5, 5, 0)), "may_carry": (BOOK, 1),
    "by_count": ((0, 1, 2), 2), "by_sites": (((0, 1), (2, 3)), (1, 1)), "least": (((0, 1), (1,)),),
    "has_lot": (TWO_OF, (0, 2, 5)), "room": (TWO_OF, (0,)), "blockers": (((0,), (1, 2)),),
    "either": (((0,),), TWO_OF), "both": (((0,),), TWO_OF), "apart": (((0,), (1, 2)), TWO_OF),
    "least_common": (TWO_OF, TWO_OF), "renamed_family": (TWO_OF, (5, 0, 3)),
    "past": (FALLEN, (1, 2), 3), "pasts_of_each": (FALLEN, 3), "has_room": (BOOK, LOTS, 4),
    "rooms": (BOOK, LOTS), "sure_after": (FALLEN, (0,), 1), "road": (FALLEN, (2,), 3, 0, 1),
    "idle_deeds": (FALLEN,), "without_idle": (FALLEN,),
    "can_miss": (BOOK, (0,), 8), "miss_world": (BOOK, (0,), 8), "hold_paper": (FALLEN, (0, 2), 5),
    "held_version": (FALLEN, (0, 2)), "most_that_miss": (BOOK, (0, 1, 2), 5),
    "worst_lot": (BOOK, (0, 1, 2), 1, 5), "least_asked": (BOOK, (0, 1, 2), 5),
    "harmless_lots": (BOOK, (0, 1, 2), 5), "least_need": (BOOK, 5, (0, 2), 2),
    "missed_versions": (BOOK, (0, 1, 2), 1),
    "can_tell": (BOOK, (1,), 5), "told_by": (BOOK, (1,)), "can_bear": (BOOK, 1), "tell_way": (BOOK, (1,), 5),
    "tell_world": (BOOK, (1,), 5), "guard": (BOOK, (1,), WAY), "shows": (BOOK, (1,), WAY),
    "way_world": (BOOK, (1,), WAY), "states": (BOOK, (1,), 5), "begins": (BOOK, 5, (1, (0, 1), 0, 0)),
    "can_be": (BOOK, LOG), "log_world": (BOOK, LOG), "next_answers": (BOOK, LOG, 5, (0, 2)),
    "sure_lot": (BOOK, LOG, 5, (0, 1, 2)), "backs": (BOOK, 3, (0, 1), 5, (1,)),
    "is_rising": (BOOK, ((1, (0, 1)), (1, (0, 2)))), "blame": (BOOK, LOG + ((5, (1, 2), 0),)),
    "surely_took": (BOOK, LOG, 5), "may_have_taken": (BOOK, LOG, 5), "markings": (BOOK, LOG),
    "fence_of": (BOOK, LOG, (5,), 5), "reach_of": (BOOK, LOG, (5,), 5),
    "breaks_at": (BOOK, LOG + ((5, (1, 2), 0),), (5,)),
    "with_ends": (STRUCK, 3), "ended": (STRUCK, 3, 3), "cells_in_time": (STRUCK, STRUCK_WORLD[:3], 3, 3),
    "remnants": (STRUCK, 2, 3), "comeback": (STRUCK, 3, (1,)), "least_grace": (STRUCK, (0, 1)),
    "hours": (WEB, (0,), 10), "hour_road": (WEB, (0,), 10, 2), "rests": (WEB, (0,), 10),
    "lag": (WEB, ONES, TWO_OF, 10), "far_lots": (WEB, ONES, TWO_OF, 10),
    "least_told": (WEB, ONES, TWO_OF, ((3, 2), (5, 8)), 12),
    "longest_every": (WEB, ONES, TWO_OF, 10, 4, (0, 2)), "hour_grace": (WEB, ONES, 10, 5),
    "origins": (MOVE, 3), "can_lose": (LOSING, 2, 2), "losing_lot": (LOSING, 2, 2), "heirs": (MOVE,),
    "short_lot": (LOSING,), "least_reads": (MOVE, 2), "fewest_copies": ((0, 1, 2), (0, 1, 3), (2,), 2, 2),
    "four_phases": ((0, 1, 2), (0, 1, 3), 2, 2), "mishaps": (FALLEN, PHASES), "dealt": (RING, OTHER, 2, 15),
    "breaks": (RING, ((3, (25,)), (4, (24,))), 2),
    "keeps_to": (NOTED, BOXES), "first_there": ((0, 1, 2), 2, (1,)),
    "noted_homes": (((3, 2, 1),), (0, 1, 2), 2, (1,)), "given_back": (NOTED, BOXES, 0),
    "counts_from": (NOTED, BOXES, 0, 3), "throw_paper": (NOTED, BOXES, 4),
    "least_gifts": (NOTED, BOXES, (0, 1), 2, 1, 2), "fewest_falls": (NOTED, BOXES, 1),
    "known_in": (TALK, ((), (2, 3), (), ()), 2, 3), "surely_known": (TALK, 0, 3), "may_know": (TALK, 2, 4),
    "deafest": (TALK, 2, 3), "newest": (TALK, 2, 3), "may_be_away": (TALK, 2, 0, 4),
    "must_be_away": (TALK, 2, 0, 4), "heard_from": (LATE, 2, 0, 0), "settled_from": (LATE, (0, 1), 1),
    "can_be_of": (LATE, ((3, 1), (4, 2)), (1, 2)),
    "late_miss": (LATE, (2, 0, (("put", 0, 1, (0,), ((0,),)),)), ((3, 1), (4, 2)), (ONE, ONE, TWO),
                  ((0,), (0,), (1,)), 1),
    "trails_apart": (FALLEN, ((0, 1),), (0, 2), 5), "least_cut": (FALLEN, ((0, 1),), (0, 2), 5),
    "is_parted": (FALLEN, ((0, 1),), (0, 2), 5, ((1, 0),)), "least_losses": (FALLEN, (0, 2), 5),
    "worst_cut": (FALLEN, (0, 2), 5), "losses_borne": (FALLEN, (0, 1, 2), 2, 5),
    "with_cut": (FALLEN, ((1, 0), (1, 2))),
    "chain": ((0, 2, 3),), "mended": (FALLEN, 2, (0, 1, 2)), "helpers": (FALLEN, (1,), 5),
    "cheapest_mend": (FALLEN, ((1,), (2,)), 5, 2), "enough_at": (FALLEN, (0, 1), ((0,), (1,)), 5),
    "safe_from": (FALLEN, ((0, 2),), 5), "blamed": (FALLEN, (0, 2), 5), "worth": (FALLEN, (0, 2), 5, 2),
    "sum_of": (TREE, ROWS, 1, 4), "join_sums": (TREE, (1, 64), (2, 92)), "compare": (TREE, ROWS, OTHER_ROWS),
    "least_proof": (TREE, ROWS, OTHER_ROWS),
    "shown": (RUNS, (4,), 1), "may_drop": (RUNS, (4,), (0, 1), 0), "poured": (RUNS, (4,), (0, 1), 9),
    "taking_order": (RUNS, (4,), (0, 1), 9),
    "play": (2, (("ask", 0, 2), ("take", 0, 2, 7), ("copy", 0, 1), ("close", 0), ("lose", 1))),
    "source": (((0, 0), (1, 4), (1, 5)),), "compare_put": (3, 3, 9), "is_passed": (PLAN, PASSING), "can_pass": (PLAN,),
    "pass_fate": (PLAN,), "bare_pass": (PLAN,), "is_unjoined": (PLAN, ((1, 0),), ((3, 0), (3, 1))),
    "stretches": (STORE,), "owner_lot": (STORE, 1, 24), "book_of": (STORE, 23), "missed": (STORE, 1, 2),
    "trial_book": (STORE, TRIAL, 23), "fails_at": (STORE, TRIAL, 23), "weak_stretches": (STORE, TRIAL),
    "is_safe": (STORE, TRIAL), "weak_point": (STORE, TRIAL), "least_askers": (STORE, TRIAL),
    "safe_numbers": (STORE, 0, 2, 1, 2), "with_ring": (STORE, (50, ((10, 0), (25, 5))), 9),
    "stands": (KEPT,), "paper_against": (MISSED,), "first_fallen": ((KEPT, MISSED),), "reason_for": (KEPT,),
    "book_text": (BOOK,), "world_text": (WORLD,), "log_text": (LOG,), "ring_text": (RING,),
    "read_book": ("book 2 1\nput 0 1 0,1 0+1\nwait 3",), "read_world": ("took 0,1 1:2\nnone\ncame 3",),
    "read_log": ("read 1 0,1 5\n",), "read_ring": ("ring 9\nspot 0 4\n",),
    "replies": (2, 1, "put 0 0,1 0\nread 0,1\nlog")}

# For an is_.. function: what is passed ahead of its thing, one that is such, one that is none.
THINGS = {
    "is_ring": ((), RING, (0, ())), "is_epochs": ((), (RING, OTHER), ()), "is_deed": ((3,), BOOK[2][0], ("wait",)),
    "is_book": ((), BOOK, (0, 1, ())), "is_world": ((BOOK,), WORLD, WORLD[:4]),
    "is_road": ((FALLEN, (2,), 3, 0, 1), (0, 0, 2), (0, 0, 0)), "is_way": ((BOOK, 5), WAY, ()),
    "is_log": ((BOOK,), LOG, LOG[::-1]),
    "is_comeback": ((STRUCK, 3, (2,)), (4, STRUCK_WORLD), (2, STRUCK_WORLD)),
    "is_web": ((), WEB, (0, ())), "is_move": ((), MOVE, MOVE[:2]), "is_losing_lot": ((LOSING, 2, 2), (0, 3), (0, 1)),
    "is_heirs": ((MOVE,), ((0, 0), (1, 1), (3, 2)), ((0, 0), (1, 1))), "is_short_lot": ((LOSING,), (0, 3), (0, 1)),
    "is_mishap_lots": ((FALLEN, PHASES, (1, 0, 0, 1)), ((2,), (0, 1)), ((1,), (0, 1))),
    "is_talk": ((), TALK, BOOK), "is_talk_world": ((TALK,), ((), (2, 3), (), ()), ((), (1,), (), ())),
    "mends_it": ((FALLEN, ((1,), (2,)), 5), ((2, 1), (0, 1)), ((0, 1),)), "is_tree": ((), TREE, TREE[:3]),
    "is_rows": ((TREE,), ROWS, ROWS[::-1]), "is_runs": ((), RUNS, RUNS[0]), "is_plan": ((), PLAN, PLAN[:1]),
    "is_fate": ((PLAN,), PASSING, PASSING[:3]), "is_store": ((), STORE, STORE[:3]),
    "is_trial": ((STORE,), TRIAL, (4, 0, 2, 1, 2)), "is_claim": ((), KEPT, KEPT[:3]),
    "is_paper_against": ((MISSED,), (((0, 1), ()), (), ()), ((0, 1), (), ())),
    "is_reason_for": ((KEPT,), (0, ((0, 0, 0), (2, 2, 2))), (0, ((0, 0, 0),)))}


# The functions that return a list.
LISTS = ("cells_by_moments", "may_be", "mishaps", "helpers", "replies")


def function(module, name):
    return getattr(importlib.import_module("hintring." + module), name)


def all_functions():
    return [(module, name, words.split()) for module, rows in NAMES.items() for name, words in rows.items()]


def listed(value):
    """The same value with lists in the place of tuples, at any depth."""
    if isinstance(value, tuple):
        return [listed(part) for part in value]
    return value


def mixed(value, depth=0):
    """The same value with lists at each second depth."""
    if isinstance(value, tuple):
        parts = [mixed(part, depth + 1) for part in value]
        return parts if depth % 2 else tuple(parts)
    return value


class Interface(unittest.TestCase):
    def test_each_is_defined_in_its_file_with_its_arguments(self):
        for module, name, words in all_functions():
            with open(os.path.join(ROOT, "hintring", module + ".py"), encoding="utf-8") as file:
                tree = ast.parse(file.read())
            defined = [one.name for one in tree.body if isinstance(one, ast.FunctionDef)]
            self.assertEqual(defined.count(name), 1, name)
            given = inspect.signature(function(module, name)).parameters.values()
            self.assertEqual([one.name for one in given], words, name)
            for one in given:
                self.assertIs(one.kind, inspect.Parameter.POSITIONAL_OR_KEYWORD)
                self.assertIs(one.default, inspect.Parameter.empty)

    def test_a_call_for_each_function(self):
        told = {name for _, name, _ in all_functions()}
        self.assertEqual(told, set(CALLS) | set(THINGS) | {"is_family", "is_boxes", "is_request", "reply"})


class Calls(unittest.TestCase):
    def check(self, action, words, args):
        kept = copy.deepcopy(args)
        first = action(*args)
        self.assertEqual(repr(action(**dict(zip(words, args)))), repr(first))
        for form in (listed, mixed):
            given = [form(part) for part in args]
            before = copy.deepcopy(given)
            self.assertEqual(repr(action(*given)), repr(first))
            self.assertEqual(repr(given), repr(before))
            self.assertEqual(repr(action(**dict(zip(words, given)))), repr(first))
            self.assertEqual(repr(given), repr(before))
        self.assertEqual(repr(args), repr(kept))
        return first

    def test_lists_names_and_no_change(self):
        for module, name, words in all_functions():
            if name in CALLS:
                with self.subTest(name):
                    self.check(function(module, name), words, CALLS[name])

    def test_only_lists_that_are_named_are_returned(self):
        for module, name, words in all_functions():
            if name in CALLS:
                with self.subTest(name):
                    result = function(module, name)(*CALLS[name])
                    self.assertEqual(isinstance(result, list), name in LISTS)
                    self.assertNotIn("[", repr(result)[1:])

    def test_a_returned_list_is_the_callers_own(self):
        for module, name in (("worlds", "cells_by_moments"), ("worlds", "may_be"), ("moves", "mishaps"),
                             ("mends", "helpers"), ("desk", "replies")):
            action = function(module, name)
            first = action(*CALLS[name])
            kept = list(first)
            first.append(7)
            first[0] = None
            self.assertEqual(action(*CALLS[name]), kept)
            self.assertIsNot(action(*CALLS[name]), action(*CALLS[name]))

    def test_lists_that_were_passed_in_are_not_kept(self):
        with_lists = listed(BOOK)
        made = function("books", "later")(with_lists, 0)
        with_lists[2][0][3].append(9)
        self.assertEqual(made, BOOK)

    def test_results_may_be_passed_in_again(self):
        cells = function("worlds", "may_be")(BOOK, 5)
        for one in cells:
            world = function("worlds", "world_to")(BOOK, 5, list(one))
            self.assertTrue(function("worlds", "is_world")(BOOK, world))

    def test_is_functions_take_no_list_for_a_tuple(self):
        for module, name, words in all_functions():
            if name in THINGS:
                with self.subTest(name):
                    ahead, good, bad = THINGS[name]
                    action = function(module, name)
                    self.assertIs(action(*ahead, good), True)
                    self.assertIs(action(*ahead, bad), False)
                    self.assertIs(action(*ahead, listed(good)), False)
                    self.assertIs(action(*ahead, mixed(good)), mixed(good) == good)
                    self.assertIs(action(*[listed(part) for part in ahead], good), True)
                    self.assertIs(action(**dict(zip(words, ahead + (good,)))), True)
        action = function("families", "is_family")
        self.assertIs(action(TWO_OF, 3), True)
        self.assertIs(action(thing=TWO_OF, many=3), True)
        self.assertIs(action(listed(TWO_OF), 3), False)
        self.assertIs(action(mixed(TWO_OF), 3), False)
        action = function("hints", "is_boxes")
        self.assertIs(action(BOXES, 5), True)
        self.assertIs(action(thing=BOXES, many=5), True)
        self.assertIs(action(listed(BOXES), 5), False)
        self.assertIs(action(mixed(BOXES), 5), False)


if __name__ == "__main__":
    unittest.main()
