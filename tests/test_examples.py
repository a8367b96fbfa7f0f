"""The examples of the document, word for word, each with what it tells."""

import unittest

from hintring import errors
from hintring.board import Board
from tests.test_interface import all_functions, function

EXAMPLES = r"""
# rings
>>> ring = (50, ((10, 0), (20, 1), (30, 2), (40, 0)))
>>> line_of(ring, 15), line_of(ring, 41), owners_of(ring, 25, 2), owners_by_sites(ring, (7, 7, 4), 41, 2), sections((ring,))
((1, 2, 0), (0, 1, 2), (2, 0), (0, 2), ((40, 10), (10, 20), (20, 30), (30, 40)))
>>> other = changed(ring, ((3, (25,)),))
>>> moved(ring, other, 2), least_handed(ring, other, 2), section_of((ring, other), 23), points_in(50, (40, 10))
((((10, 20), (2,), (3,)), ((20, 25), (0,), (3,))), 15, (20, 25), 20)
# books
>>> two_of = ((0, 1), (0, 2), (1, 2))
>>> deeds = (("put", 0, 5, (0, 1, 2), two_of), ("send", 2, 0, 1), ("lose", 6, 1), ("strike", 7, 8, (1,), ((1,),)))
>>> book = (3, 4, deeds)
>>> comings(book, 0), comings(book, 1), comings(book, 2), tick_at(book, 3), writes(book), versions(book)
((1, 2), (2, 3), (), 6, (0, 3), (5, 8))
>>> letters(book), number_of(book, 8), is_strike(book, 8), touching(book, 1)
(((0, 0), (0, 1), (0, 2), (1, 1), (3, 1)), 3, True, (0, 1, 2, 3))
>>> renamed(book, (2, 0, 1))[2][1:], spread(book, (1, 2))[2][3], do_commute(book, 1)
((('send', 2, 2, 0), ('lose', 6, 0), ('strike', 7, 8, (0,), ((0,),))), ('strike', 7, 2, (1,), ((1,),)), False)
>>> joined(upto(book, 2), beyond(book, 2)) == book, tick_at(book, 0), last(book)
(True, 0, 4)
>>> number_of(book, 6)
raises NoVersion(number=6)
# worlds
>>> two_of = ((0, 1), (0, 2), (1, 2))
>>> plain_one = (3, 2, (("put", 0, 1, (0, 1, 2), two_of),))
>>> least_world(plain_one), full_world(plain_one), may_be(plain_one, 1)
((((0, 1), ()),), (((0, 1, 2), ((0, 1), (1, 1), (2, 1))),), [(0, 1, 1), (1, 0, 1), (1, 1, 0), (1, 1, 1)])
>>> fallen = (3, 2, (("put", 0, 1, (0, 1, 2), two_of), ("lose", 5, 0)))
>>> may_be(fallen, 2), world_to(fallen, 2, (0, 0, 0))
([(0, 0, 1), (0, 1, 0), (0, 1, 1)], None)
>>> late_one = (2, 9, (("put", 0, 1, (0,), ((0,),)), ("lose", 1, 0), ("send", 2, 0, 1)))
>>> again = (((0,), ((0, 2),)), (), (3,))
>>> is_world(late_one, again), cells_by_moments(late_one, again), carried(late_one, again)
(True, [(0, 0), (1, 0), (1, 0), (1, 1)], (1, 0, 1))
>>> tells(late_one, again, (1,), 3), cut_world(late_one, again, 1), hushed(late_one, again, 1)
(1, (((0,), ()),), (((0,), ()), (), ()))
>>> may_carry(late_one, 2), may_carry((2, 0, late_one[2][:1] + (("send", 0, 0, 1),)), 1)
((0, 1), (1,))
# families
>>> two_of = by_count((0, 1, 2), 2)
>>> two_of, by_sites(((0, 1), (2, 3)), (1, 1)), least(((0, 1), (1,), (0, 2)))
(((0, 1), (0, 2), (1, 2)), ((0, 2), (0, 3), (1, 2), (1, 3)), ((0, 2), (1,)))
>>> has_lot(two_of, (0, 2, 5)), room(two_of, (0,)), blockers(((0,), (1, 2))), renamed_family(two_of, (5, 0, 3))
(True, (1, 2), ((0, 1), (0, 2)), ((0, 3), (0, 5), (3, 5)))
>>> either(((0,),), two_of), both(((0,),), two_of), apart(by_count((0, 1, 2, 3), 2), two_of), least_common(two_of, two_of)
(((0,), (1, 2)), ((0, 1), (0, 2)), ((0, 3), (1, 2)), 1)
# pasts
>>> turned = (3, 0, (("copy", 0, 0, 1), ("lose", 0, 0), ("copy", 0, 2, 0)))
>>> past(turned, (1,), 3), past(turned, (0,), 3), past(turned, (0,), 1)
(((0, 1), (1,), (1,), (1,)), ((2,), (2,), (0, 2), (0,)), ((0,), (0,)))
>>> sure_after(turned, (0,), 0), road(turned, (1,), 3, 0, 0), road(turned, (0,), 3, 0, 0)
(((0,), (0, 1), (1,), (1,)), (0, 1, 1, 1), None)
>>> two_of = ((0, 1), (0, 2), (1, 2))
>>> taken_over = (4, 2, (("put", 0, 1, (0, 1, 2), two_of), ("copy", 4, 0, 3)))
>>> rooms(taken_over, past(taken_over, (0, 3), 2)), rooms(taken_over, past(taken_over, (1, 3), 2))
((0,), ())
>>> idle_deeds((2, 0, (("copy", 0, 0, 1), ("copy", 0, 0, 1)))), idle_deeds((2, 0, (("lose", 0, 0), ("lose", 0, 0))))
((0,), (0,))
# misses
>>> two_of = ((0, 1), (0, 2), (1, 2))
>>> plain = (3, 2, (("put", 0, 1, (0, 1, 2), two_of),))
>>> fallen = (3, 2, (("put", 0, 1, (0, 1, 2), two_of), ("lose", 5, 0)))
>>> can_miss(fallen, (0, 1), 1), miss_world(plain, (0,), 1), hold_paper(plain, (0, 1), 1)
(True, (((1, 2), ()),), (0, ((0,), (1,))))
>>> least_asked(plain, (0, 1, 2), 1), least_asked(fallen, (0, 1, 2), 1), worst_lot(fallen, (0, 1, 2), 2, 1)
(2, 3, (0, 1))
>>> harmless_lots(fallen, (0, 1, 2), 1), held_version(fallen, (1, 2)), most_that_miss(plain, (0, 1, 2), 1)
(((1, 2),), 1, 1)
>>> least_need(plain, 1, (0, 1, 2), 1), least_need(fallen, 1, (0, 1, 2), 1), missed_versions(fallen, (0, 1, 2), 2)
(3, None, (1,))
# instead
>>> first, send, second = ("put", 0, 1, (2,), ((2,),)), ("send", 1, 2, 0), ("put", 2, 2, (1, 2), ((1, 2),))
>>> book = (3, 9, (first, send, second))
>>> told_by(book, (0,)), told_by(book, (0, 1)), can_bear(book, 1), told_by(book, ())
((0, 1), (2,), (1,), (0,))
>>> way = ((1, 2, 0), (3, 0, 1))
>>> is_way(book, 1, way), guard(book, (0,), way), shows(book, (0,), way), shows(book, (0, 1), way)
(True, ((0, 2), (0, 2), (0,), (0,)), True, False)
>>> way_world(book, (0,), way)
(((2,), ((2, 1),)), (3,), ((1, 2), ()))
>>> states(book, (0,), 1)
((1, (0,), 0, 0), (1, (0, 2), 2, 0), (2, (0,), 0, 0), (3, (0,), 0, 0))
# logs
>>> nothing_at_0 = ((1, (0,), 0),)
>>> can_be(plain, nothing_at_0 + ((1, (1,), 0),)), blame(plain, nothing_at_0 + ((1, (1,), 0),)), next_answers(plain, nothing_at_0, 1, (1,))
(False, ((0,), (1,)), (1,))
>>> surely_took(plain, nothing_at_0, 1), sure_lot(plain, (), 1, (0, 1, 2)), is_rising(plain, ((1, (0, 1)), (1, (1, 2))))
((1, 2), (0, 1), True)
>>> covered = (3, 9, (("put", 0, 1, (2,), ((2,),)), ("put", 1, 2, (1, 2), ((1, 2),)), ("send", 2, 2, 0)))
>>> markings(covered, ((3, (0,), 1),)), breaks_at(covered, ((3, (0,), 1),), (0,)), breaks_at(covered, ((3, (0,), 1),), (1,))
(((0,), (1,)), 0, (1, ((2,),)))
>>> next_answers(covered, (), 3, (0,)), backs(plain, 1, (1,), 1, (0,)), backs(covered, 2, (2,), 3, (0,))
((0, 2), (1,), (2,))
# strikes
>>> two_of = ((0, 1), (0, 2), (1, 2))
>>> first, gone = ("put", 0, 1, (0, 1, 2), two_of), ("strike", 1, 2, (0, 1, 2), two_of)
>>> healed = (3, 2, (first, gone, ("copy", 5, 0, 1), ("copy", 6, 1, 0), ("copy", 7, 1, 2)))
>>> [remnants(healed, 2, moment) for moment in (2, 3, 4, 5)], [least_grace(healed, (place,)) for place in (0, 1, 2)]
([(0, 1, 2), (0, 2), (2,), ()], [6, 5, 7])
>>> timed, late = with_ends(healed, 6), (((0, 2), ()), ((0, 1), ()), (), (), (), ())
>>> timed[2][4], comeback(healed, 6, (0, 1)), is_comeback(healed, 6, (2,), (5, late))
(('wait', 7), None, True)
>>> cells_in_time(timed, late, 6, 5), ended(timed, 6, 4)
((0, 0, 1), ())
# hours
>>> web = (3, (("meet", (0, 1), 4, 0, 100), ("meet", (1, 2), 3, 0, 100)))
>>> hours(web, (0,), 10), rests(web, (0,), 10), hour_road(web, (0,), 10, 2)
((10, 14, 17), ((10, 14), (14, 17)), ((0, 0, 1, 14), (1, 1, 2, 17)))
>>> once = (2, (("copy", (0, 1), 5, 10, 15),))
>>> hours(once, (0,), 10), hours(once, (0,), 11), rests(once, (0,), 11)
((10, 15), (11, -1), ((11, 16),))
# lags
>>> ones = ((0,), (1,), (2,))
>>> lag(web, ones, ones, 10), far_lots(web, ones, ones, 10), lag(web, ones, ((0, 1), (0, 2), (1, 2)), 10)
(7, ((0,), (2,)), 4)
>>> least_told(web, ones, ones, ((3, 2), (5, 8), (9, 11)), 12), longest_every(web, ones, ones, 10, 5, (0, 2))
(3, 5)
>>> hour_grace(web, ones, 10, 5)
13
# moves
>>> move = ((0, 1, 2), (0, 1, 3), ((0, 3),))
>>> can_lose(move, 2, 2), least_reads(move, 2), heirs(move), is_short_lot(move, (0, 3)), heirs(((0, 1, 2), (0, 1, 3), ((2, 3),)))
(True, 3, None, True, ((0, 0), (1, 1), (3, 2)))
>>> ring, phases = (50, ((10, 0), (20, 1), (30, 2), (40, 0))), four_phases((0, 1, 2), (0, 1, 3), 2, 2)
>>> fewest_copies((0, 1, 2), (0, 1, 3), (2,), 2, 2), breaks(ring, ((3, (25,)), (4, (24,))), 2)
(((0, 3), (1, 3)), ((20, 24),))
>>> dealt(ring, (50, ((10, 0), (20, 1), (25, 3))), 2, 25), mishaps((4, 0, (("copy", 1, 2, 3),)), phases)[0]
(((0, 2), (0, 3), ((2, 3),)), (0, 2, 0, 0))
>>> is_mishap_lots((4, 0, (("copy", 1, 2, 3),)), phases, (0, 2, 1, 1), ((1, 2), (0, 3)))
True
# hints
>>> boxes, put = ((4, 3, 2),), ("put", 0, 1, (0, 1, 4), ((0, 1), (0, 4), (1, 4)))
>>> first_there((0, 1, 2, 3), 3, (2,)), noted_homes(boxes, (0, 1, 2, 3), 3, (2,))
((0, 1, 3), (0, 1, 4))
>>> kept, given = (5, 2, (put,)), (5, 2, (put, ("copy", 3, 4, 2)))
>>> given_back(kept, boxes, 0), given_back(given, boxes, 0), counts_from(given, boxes, 0, 4)
((), (4,), 2)
>>> throw_paper(kept, boxes, 4), throw_paper(given, boxes, 4), least_gifts(kept, boxes, (0, 1, 3), 2, 1, 1)
(((0, 2), 1), None, ((4, 3),))
>>> fewest_falls(kept, boxes, 1), fewest_falls(kept, ((4, 1, 2),), 1)
((0, 1), (1,))
# talk
>>> talk = (3, 9, (("say", 0, 0), ("send", 1, 0, 1), ("copy", 2, 1, 2), ("wait", 9)))
>>> surely_known(talk, 2, 4), may_know(talk, 2, 4), must_be_away(talk, 2, 3, 4), must_be_away(talk, 2, 2, 4)
((), (1,), (0, 1), (1,))
>>> deafest(talk, 2, 3), newest(talk, 2, 3)
(((), (2,), (), ()), ((), (3, 4), (), ()))
>>> late = (3, 0, (("say", 0, 0), ("copy", 1, 0, 1), ("say", 2, 0), ("copy", 3, 1, 2)))
>>> asks, one, two = ((3, 1), (4, 2)), ((0,), ((0,),)), ((1,), ((1,),))
>>> settled_from(late, (0, 1), 1), heard_from(late, 2, 0, 0), may_be_away(late, 2, 0, 3), can_be_of(late, asks, (2, 1))
(2, 4, (0, 1), False)
>>> late_miss(late, (2, 0, (("put", 0, 1, (0,), ((0,),)),)), asks, (one, one, two), ((0,), (0,), (1,)), 1)
(1, 2)
# mends
>>> stays = (4, 2, (("put", 0, 1, (0, 1, 2), two_of), ("copy", 4, 0, 3)))
>>> leaves = (4, 2, (("put", 0, 1, (0, 1, 2), two_of), ("copy", 4, 2, 3)))
>>> chain((0, 2, 3)), helpers(stays, (0, 3), 1), helpers(leaves, (0, 3), 1)
(((0, 2), (2, 3), (3, 2), (2, 0)), [(1,), (2,)], [()])
>>> asked = ((0, 1), (0, 3), (1, 3))
>>> cheapest_mend(leaves, asked, 1, 2), cheapest_mend(stays, asked, 1, 0), len(cheapest_mend(stays, asked, 1, 2))
((), None, 1)
>>> mends_it(stays, asked, 1, ((1, 0),)), enough_at(stays, (1, 3), asked, 1), safe_from(leaves, ((0, 3),), 1)
(True, (1, 2), 2)
>>> blamed(leaves, (0, 3), 1), worth(leaves, (0, 3), 1, 1), mended(leaves, 1, (0, 1))[2][1:]
((1,), 1, (('copy', 0, 0, 1), ('copy', 0, 1, 0), ('copy', 4, 2, 3)))
# losses
>>> trails_apart(taken_over, ((0, 1),), (1, 3), 1), len(least_cut(taken_over, ((0, 1),), (1, 3), 1))
(((1, (0, 3)), (1, (1, 1))), 2)
>>> len(trails_apart(taken_over, ((0, 2),), (0, 3), 1)), is_parted(taken_over, ((0, 2),), (0, 3), 1, ((1, 0),))
(1, True)
>>> plain = (3, 2, (("put", 0, 1, (0, 1, 2), two_of),))
>>> least_losses(plain, (0, 1), 1), least_losses(plain, (0, 1, 2), 1), least_losses(plain, (0,), 1)
(1, 2, 0)
>>> losses_borne(plain, (0, 1, 2), 2, 1), losses_borne(plain, (0, 1, 2), 3, 1), losses_borne(plain, (0, 1, 2), 1, 1)
(0, 1, -1)
>>> twins = (2, 0, (("put", 0, 1, (0,), ((0,),)), ("put", 0, 2, (1,), ((1,),))))
>>> least_losses(twins, (0, 1), 1), least_losses(twins, (0, 1), 2), with_cut(plain, ((1, 0),))[2][1]
(2, 1, ('lose', 0, 0))
# sums
>>> tree, one, other = (2, 2, 97, 10), ((0, 1), (2, 4), (3, 2)), ((0, 1), (2, 5), (3, 2))
>>> sum_of(tree, one, 0, 4), sum_of(tree, one, 0, 2), sum_of(tree, one, 2, 4), join_sums(tree, (1, 64), (2, 92))
((3, 90), (1, 64), (2, 92), (3, 90))
>>> compare(tree, one, other), least_proof(tree, one, other), compare((2, 1, 2, 1), ((0, 1),), ((0, 2),))
(((2,), 5), 3, ((), 1))
>>> is_tree((2, 6, 97, 10)), is_tree((2, 7, 97, 10)), is_rows(tree, one), is_rows(tree, ((4, 1),))
(True, False, True, False)
>>> sum_of(tree, one, 3, 2)
raises Unfit()
# runs
>>> runs = ((0, 1), (1, 3)), ((0, 4),), ((1, 2),)
>>> [shown(runs, (4,), key) for key in (0, 1, 2)], may_drop(runs, (4,), (0, 1), 0), may_drop(runs, (4,), (1, 2), 0)
([0, 3, 0], True, False)
>>> poured(runs, (4,), (0, 1), 9), poured(runs, (4,), (0, 1), 3)
((((1, 2),), ((1, 3),)), (((1, 2),), ((0, 4), (1, 3))))
>>> taking_order(runs, (4,), (0, 1), 9), taking_order((((0, 3), (1, 2)), ((0, 1),)), (3,), (0, 1), 9)
((0, 1), (1, 0))
>>> taking_order((((0, 1), (1, 4)), ((0, 3), (1, 2))), (3, 4), (0, 1), 9) is None, is_runs((((1, 2), (0, 1)),))
(True, False)
# rounds
>>> play(2, (("ask", 0, 2), ("take", 0, 1, 7), ("take", 0, 2, 7), ("copy", 0, 1), ("ask", 1, 3)))
(((2, (2, 7), False), (3, (2, 7), False)), ((0, 0), None, True, None, (2, 7)))
>>> source(((0, 0), (1, 4), (1, 5))), compare_put(3, 3, 9), compare_put(4, 3, 9)
((1, 4), 9, 4)
>>> take, ask, far = ("take", 0, two_of), ("ask", 1, two_of), ("ask", 1, ((1, 3),))
>>> lost, plan = (3, (take, ("lose", 0), ask)), (4, (take, ("close", 0), ("copy", 0, 3), far))
>>> can_pass((3, (take, ask))), bare_pass((3, (take, ask))), can_pass(lost), can_pass(plan)
(False, True, True, False)
>>> passing = ((), (("take", 0, 0), ("take", 0, 1)), (), (("ask", 1, 0), ("ask", 1, 2)))
>>> is_fate(lost, passing), is_passed(lost, passing), is_unjoined(lost, ((1, 0),), ((3, 0),)), is_unjoined(lost, ((2, 0),), ((3, 0),))
(True, True, True, False)
# store
>>> ring, other = (12, ((0, 0), (3, 1), (6, 2), (9, 3))), (12, ((0, 0), (3, 1), (6, 2), (8, 4), (9, 3)))
>>> calm = (3, 5, (ring,), (("put", 0, 1, 7, 0, 2),))
>>> owner_lot(calm, 0, 7), stretches(calm), book_of(calm, 7)[2]
((0, 1, 3), ((1, 3), (4, 6), (7, 9), (10, 0)), (('put', 0, 1, (0, 1, 3), ((0, 1), (0, 3), (1, 3))),))
>>> grown = with_ring(calm, other, 4)
>>> missed(calm, 0, 1), grown[3][1:]
((1,), (('pour', 4, 3, 4, 1, 3), ('pour', 4, 0, 4, 4, 6), ('pour', 4, 1, 4, 7, 8)))
>>> missed(grown, 1, 2), is_safe(grown, (1, 0, 2, 1, 2)), weak_stretches(grown, (4, 0, 2, 1, 2))
((), True, ((1, 3), (4, 6), (7, 8)))
>>> weak_point(grown, (4, 0, 2, 1, 2))[:2], least_askers(grown, (4, 0, 2, 1, 2)), safe_numbers(grown, 1, 2, 1, 2)
((1, (1, 4)), 3, (0, 1, 2, 3, 4))
# judge
>>> stands(("kept", plain, (0, 1), 1)), is_paper_against(("kept", plain, (0,), 1), (((1, 2), ()),)), is_reason_for(("kept", plain, (0, 1), 1), (0, ((0,), (1,))))
(True, True, True)
>>> stands(("silent", taken_over, (2, 3), 0)), is_paper_against(("silent", taken_over, (0, 3), 0), (((1, 2), ()), ())), stands(("never", plain, ((1, (0,), 0), (1, (1,), 0))))
(True, True, True)
>>> stands(("bears", plain, (0, 1, 2), 3, 1, 1)), is_paper_against(("bears", plain, (0, 1, 2), 3, 1, 2), ((0, 1, 2), ((1, 0), (1, 1)), (((0, 1), ()), (), ())))
(True, True)
>>> stands(("safe", grown, (4, 0, 2, 1, 2))), is_paper_against(("moved", move, 2, 2), (0, 3)), stands(("meet", two_of, two_of))
(False, True, True)
>>> stands(("within", web, ones, ones, 10, 7)), is_paper_against(("within", web, ones, ones, 10, 6), ((0,), (2,)))
(True, True)
>>> first_fallen((("kept", plain, (0, 1), 1), ("kept", plain, (0,), 1)))[0], is_claim(("kept", plain, (0, 3), 1))
(1, False)
>>> stands(("sure", plain))
raises Unfit()
# texts
>>> book = (3, 2, (("put", 0, 1, (0, 1, 2), ((0, 1), (0, 2), (1, 2))), ("send", 4, 0, 2), ("lose", 5, 0)))
>>> book_text(book)
'book 3 2\nput 0 1 0,1,2 0,1+0,2+1,2\nsend 4 0 2\nlose 5 0\n'
>>> read_book(book_text(book)) == book, read_book("book 2 0\nstrike 3 5 - -"), read_world("")
(True, (2, 0, (('strike', 3, 5, (), ((),)),)), ())
>>> world_text((((0, 1), ((2, 1), (2, 2))), (2, 3), ())), read_world("took - -\ncame 7")
('took 0,1 2:1,2:2\ncame 2,3\nnone\n', (((), ()), (7,)))
>>> log_text(((2, (0, 1), 5),)), read_ring("ring 8\nspot 0 1\nspot 5 0")
('read 2 0,1 5\n', (8, ((0, 1), (5, 0))))
>>> read_book("book 2 0\nput 3 1 0,1 0+0,1")
raises BadLine(number=1)
>>> read_book("")
raises BadLine(number=0)
>>> read_ring("ring 8\nspot 5 1\nspot 5 0")
raises BadLine(number=2)
# board
>>> two_of = ((0, 1), (0, 2), (1, 2))
>>> board = Board(3, 2)
>>> board.put((0, 1), (0, 1, 2), two_of), board.cells(), board.letters()
(1, (1, 1, 0), ((0, 0), (0, 1), (0, 2)))
>>> board.send(0, 2), board.wait(2), board.letters(), board.tick(), board.may_miss((0, 2)), board.may_tell((2,))
(None, None, ((0, 0), (0, 1), (0, 2), (1, 2)), 2, (), (0, 1))
>>> board.read((2,)), board.answers((2,)), board.answers((0,)), board.letters()
(0, (0,), (1,), ())
>>> board.come(1, 2)
raises CanNot()
>>> board.wait(0), board.come(1, 2), board.cells(), board.read((2,)), board.world(), board.log()
(None, None, (1, 1, 1), 1, (((0, 1), ()), (4,), (), ()), ((3, (2,), 0), (4, (2,), 1)))
>>> other = board.twin()
>>> board.undo(), board.undo(), board.cells(), other == board, other.least_grace((0, 1))
(None, None, (1, 1, 0), False, 0)
>>> board.redo(), board.redo(), other == board
(None, None, True)
>>> board.read((0, 3))
raises NoPlace(number=3)
# desk
>>> told = replies(3, 2, "put 0,1 0,1,2 0,1+0,2+1,2\nletters\nwait 2\ncome 0 2\ncells\nread 2\nmiss 2\ntell 2\ntell 0,1\nlog")
>>> told[:5], told[5:]
(['1', '0:0,0:1,0:2', 'done', 'done', '1 1 1'], ['1', '1', '0,1', '1', 'read 2 2 1'])
>>> replies(2, 1, "copy 0 0\ncopy 0 2\nput 0 0,1 0,1\nundo\ncome 0 1\nletters\nlog\nbook\ncells")
['refused Unfit', 'refused NoPlace', 'refused Unfit', 'refused NothingDone', 'refused NoDeed', '-', '-', 'book 2 1', '0 0']
>>> is_request("put 1,0 0,1 0"), is_request("put 0 0,1 0+0,1"), is_request("strike - - -"), is_request("wait 007"), is_request("tell -")
(False, False, True, False, True)
>>> replies(2, 1, "tick\n tick")
raises BadLine(number=1)
"""


def all_names():
    """What an example may call: all that the interface lists."""
    names = {name: function(module, name) for module, name, _ in all_functions()}
    names["Board"] = Board
    return names


def examples():
    """Triples (section, what is asked, what is told or None) in order."""
    found, section = [], ""
    for line in EXAMPLES.strip().split("\n"):
        if line.startswith("# "):
            section = line[2:]
        elif line.startswith(">>> "):
            found.append((section, line[4:], None))
        else:
            found[-1] = found[-1][:2] + (line,)
    return found


class Examples(unittest.TestCase):
    def check(self, section):
        """Plays all examples, as later ones use names of earlier ones; checks those of a section."""
        names, checked = all_names(), 0
        for where, asked, told in examples():
            if told is None:
                exec(asked, names)
            elif where == section:
                self.look(names, asked, told)
                checked += 1
        self.assertGreater(checked, 0)

    def look(self, names, asked, told):
        if told.startswith("raises "):
            wanted = eval(told[7:], dict(vars(errors)))
            with self.assertRaises(type(wanted), msg=asked) as seen:
                eval(asked, names)
            self.assertIs(type(seen.exception), type(wanted))
            self.assertEqual(vars(seen.exception), vars(wanted))
        else:
            self.assertEqual(repr(eval(asked, names)), repr(eval(told, names)), asked)

    def test_rings(self):
        self.check("rings")

    def test_books(self):
        self.check("books")

    def test_worlds(self):
        self.check("worlds")

    def test_families(self):
        self.check("families")

    def test_pasts(self):
        self.check("pasts")

    def test_misses(self):
        self.check("misses")

    def test_instead(self):
        self.check("instead")

    def test_logs(self):
        self.check("logs")

    def test_strikes(self):
        self.check("strikes")

    def test_hours(self):
        self.check("hours")

    def test_lags(self):
        self.check("lags")

    def test_moves(self):
        self.check("moves")

    def test_hints(self):
        self.check("hints")

    def test_talk(self):
        self.check("talk")

    def test_losses(self):
        self.check("losses")

    def test_mends(self):
        self.check("mends")

    def test_sums(self):
        self.check("sums")

    def test_runs(self):
        self.check("runs")

    def test_rounds(self):
        self.check("rounds")

    def test_store(self):
        self.check("store")

    def test_judge(self):
        self.check("judge")

    def test_texts(self):
        self.check("texts")

    def test_board(self):
        self.check("board")

    def test_desk(self):
        self.check("desk")


if __name__ == "__main__":
    unittest.main()
