"""Rounds, against all FATES of small PLANS and against roads."""

import random
import unittest
from itertools import product

from hintring import errors
from hintring.families import by_count
from hintring.rounds import (bare_pass, can_pass, compare_put, is_fate, is_passed, is_plan, is_unjoined, pass_fate,
                             play,
                             source)
from tests import fates
from tests.cases import Case

TWO_OF = ((0, 1), (0, 2), (1, 2))
TAKE, ASK, FAR = ("take", 0, TWO_OF), ("ask", 1, TWO_OF), ("ask", 1, ((1, 3),))
LOST, PLAN = (3, (TAKE, ("lose", 0), ASK)), (4, (TAKE, ("close", 0), ("copy", 0, 3), FAR))
PASSING = ((), (("take", 0, 0), ("take", 0, 1)), (), (("ask", 1, 0), ("ask", 1, 2)))
FULL = (3, (("ask", 0, TWO_OF), TAKE, ASK, ("take", 1, TWO_OF)))
GREAT = 10 ** 9


def random_events(rng, many, count):
    events = []
    for _ in range(count):
        kind = rng.choice(("ask", "ask", "take", "take", "copy", "copy", "lose", "close")) if many > 1 else "ask"
        if kind == "copy":
            events.append((kind,) + tuple(rng.sample(range(many), 2)))
        elif kind in ("lose", "close"):
            events.append((kind, rng.randrange(many)) if rng.random() < 0.6 else ("ask", rng.randrange(many), 4))
        else:
            events.append((kind, rng.randrange(many), rng.randrange(1, 6)) + ((rng.randrange(9),) * (kind == "take")))
    return tuple(events)


class Play(Case):
    def test_event_by_event(self):
        rng, told = random.Random(1200), set()
        for _ in range(500):
            many = rng.randrange(1, 5)
            events = random_events(rng, many, rng.randrange(0, 25))
            cells, wanted = fates.start(many), []
            for event in events:
                cells, heard = fates.event_behind(cells, event)
                wanted.append(heard)
            self.assertEqual(play(many, events), (cells, tuple(wanted)))
            told |= set(wanted)
        self.assertTrue({None, True, (0, 0)} < told)

    def test_edges(self):
        self.assertEqual(play(2, ()), (((0, (0, 0), False),) * 2, ()))
        # Equal ballots: other keeps its own; a loss opens what was closed.
        events = (("take", 0, 1, 5), ("take", 1, 1, 6), ("copy", 0, 1), ("close", 1), ("ask", 1, 9), ("copy", 1, 0),
                  ("lose", 1), ("ask", 1, 1), ("ask", 1, 1), ("take", 1, 1, 3))
        self.assertEqual(play(2, events), (((1, (1, 5), False), (1, (1, 3), False)),
                                           (True, True, None, None, None, None, None, (0, 0), None, True)))
        self.assertEqual(play(2, (("close", 1), ("ask", 0, 4), ("copy", 0, 1)))[0],
                         ((4, (0, 0), False), (4, (0, 0), True)))

    def test_refusals(self):
        for event in (("ask", 2, 1), ("take", 2, 1, 0), ("copy", 0, 2), ("copy", 2, 7), ("lose", 2), ("close", 2)):
            self.refused(errors.NoPlace, 2, play, 2, (("ask", 0, 7), event, ("lose", 9)))
        self.refused(errors.NoPlace, -1, play, 2, (("copy", -1, 5),))
        self.refused(errors.NoPlace, 5, play, 2, (("copy", 1, 5), ("lose", -1)))

    def test_source_and_compare_put(self):
        rng = random.Random(1201)
        for _ in range(200):
            answers = tuple((rng.randrange(0, 4), rng.randrange(9)) for _ in range(rng.randrange(0, 6)))
            best = max([ballot for ballot, _ in answers], default=0)
            wanted = [one for one in answers if one[0] == best][0] if answers else (0, 0)
            self.assertEqual(source(answers), wanted)
        self.assertEqual((source(()), source(((0, 0),)), source([[2, 5], [2, 6]])), ((0, 0), (0, 0), (2, 5)))
        self.assertEqual((compare_put(0, 0, 5), compare_put(5, 0, 7), compare_put(7, 7, 7)), (5, 5, 7))

    def test_at_the_bounds(self):
        events = tuple(("ask", k % 4, k + 1) if k % 3 else ("take", k % 4, k + 1, GREAT) for k in range(60))
        cells, heard = play(4, events)
        self.assertEqual((len(cells), len(heard)), (4, 60))


class Lines(Case):
    def test_states_of_rounds_that_were_taken_stand_in_one_line(self):
        rng, met, over = random.Random(1202), 0, 0
        for _ in range(600):
            back, took, heard = self.rounds(rng)
            if any(max(heard[later]) < ballot for ballot in took for later in heard if later > ballot):
                over += 1
                continue
            for one in took:
                for other in took:
                    at = other
                    while at > one:
                        at = back[at]
                    self.assertEqual(at, min(one, other))
            met += len(took) > 1
        self.assertTrue(met > 200 and over > 20, (met, over))

    def rounds(self, rng):
        """Plays rounds of unlike ballots, one or two at a time, with losses now and then.

        Returns for each ballot the one that its state comes from, which of them a whole lot took,
        and for each the ballots of the TAKEN that its whole lot answered."""
        events, back, takes, heard = [], {}, {}, {}
        for pair in ((1, 2), (4, 3), (5, 6)):
            for ballot in rng.sample(pair, 2):
                events += [("ask", place, ballot) for place in rng.sample(range(3), 2)]
                told = play(3, tuple(events))[1][-2:]
                if None not in told:
                    back[ballot], heard[ballot] = source(told)[0], [taken[0] for taken in told]
                    self.assertEqual(compare_put(source(told)[1], source(told)[1], 100 + ballot), 100 + ballot)
            for ballot in rng.sample([one for one in pair if one in back], len([one for one in pair if one in back])):
                for place in rng.sample(range(3), rng.randrange(1, 4)):
                    events.append(("take", place, ballot, 100 + ballot))
                    if play(3, tuple(events))[1][-1]:
                        takes.setdefault(ballot, set()).add(place)
            if rng.random() < 0.3:
                events.append(("lose", rng.randrange(3)))
        return back, [ballot for ballot in takes if len(takes[ballot]) >= 2], heard


class Fates(Case):
    def test_is_fate_and_is_passed(self):
        rng, seen = random.Random(1203), []
        for _ in range(900):
            plan = fates.random_plan(rng)
            fate = fates.random_fate(rng, plan, rng.choice((0.3, 0.7, 1)))
            if rng.random() < 0.5:
                fate = self.bent(rng, plan, fate)
            legal, passes = fates.is_legal(plan, fate)
            self.assertIs(is_fate(plan, fate), legal, (plan, fate))
            if legal:
                self.assertIs(is_passed(plan, fate), passes)
            seen.append((legal, passes))
        self.assertTrue(min(seen.count(one) for one in ((True, True), (True, False), (False, False))) > 40)

    def bent(self, rng, plan, fate):
        """The same with an answer more, one less, or one elsewhere."""
        rows = [list(row) for row in fate]
        full = [at for at, row in enumerate(rows) if row]
        kind = rng.choice(("more", "less", "move", "swap"))
        if kind != "more" and full:
            at = rng.choice(full)
            answer = rows[at].pop(rng.randrange(len(rows[at])))
            if kind == "move":
                rows[rng.randrange(len(rows))].append(answer)
            elif kind == "swap":
                rows[at].insert(0, answer)
        else:
            rows[rng.randrange(len(rows))].append((rng.choice(("ask", "take")), rng.randrange(2),
                                                   rng.randrange(plan[0])))
        return tuple(tuple(row) for row in rows)

    def test_can_pass_by_all_fates(self):
        rng, seen = random.Random(1204), []
        for _ in range(900):
            self.check(fates.random_plan(rng), seen)
        for asks, last in product((True, False), repeat=2):
            for _ in range(60):
                self.check(fates.random_plan(rng, 3, 4, asks, last), seen)
        self.assertTrue(min(seen.count((one, asks)) for one in (True, False) for asks in (True, False)) > 60, seen)

    def check(self, plan, seen):
        wanted = fates.can_pass_by_fates(plan)
        self.assertIs(can_pass(plan), wanted, plan)
        fate = pass_fate(plan)
        if wanted:
            self.assertEqual(fates.is_legal(plan, fate), (True, True))
            self.assertIs(is_fate(plan, fate), True)
            self.assertIs(is_passed(plan, fate), True)
            self.assertEqual(pass_fate(plan), fate)
        else:
            self.assertIsNone(fate)
        asks = ("ask", 0) in fates.steps_of(plan)
        if asks:
            self.assertRaises(errors.Unfit, bare_pass, plan)
        else:
            bare = fates.can_pass_by_fates(plan, True)
            self.assertIs(bare_pass(plan), bare)
            self.assertLessEqual(wanted, bare)
        seen.append((wanted, asks))

    def test_a_plain_put_by_roads(self):
        rng, seen = random.Random(1205), []
        for _ in range(250):
            plan = fates.random_plan(rng, rng.choice((2, 3)), 3, False)
            steps = fates.steps_of(plan)
            end = steps[("take", 1)][0] if ("take", 1) in steps else len(plan[1])
            takes = self.rows_of(plan, steps[("take", 0)], len(plan[1]))
            answers = self.rows_of(plan, steps[("ask", 1)], end)
            wanted = any(is_unjoined(plan, one, other) for one in takes for other in answers)
            self.assertIs(can_pass(plan), wanted)
            seen.append(wanted)
        self.assertTrue(seen.count(True) > 40 and seen.count(False) > 40)

    def rows_of(self, plan, head, end):
        """All tuples of pairs by which a whole lot can answer this STEP at PLACES not closed there."""
        at, family = head
        closed = [{place for place in range(plan[0]) if self.is_closed(plan, moment, place)}
                  for moment in range(len(plan[1]) + 1)]
        return [row for lot in family for row in product(*[
            [(moment, place) for moment in range(at + 1, end + 1) if place not in closed[moment]] for place in lot])]

    def is_closed(self, plan, moment, place):
        cells = fates.start(plan[0])
        for at in range(moment):
            cells = fates.behind_step(plan, at, cells)
        return cells[place][2]

    def test_is_unjoined(self):
        rng, seen = random.Random(1206), []
        for _ in range(300):
            plan = fates.random_plan(rng, rng.choice((2, 3, 4)), 4)
            pairs = fates.all_pairs(plan)
            takes = tuple(rng.choice(pairs) for _ in range(rng.randrange(0, 3)))
            answers = tuple(rng.choice(pairs) for _ in range(rng.randrange(0, 3)))
            wanted = not any(two in fates.road_ends(plan, one) or one in fates.road_ends(plan, two)
                             for one in takes for two in answers)
            self.assertIs(is_unjoined(plan, takes, answers), wanted)
            self.assertIs(is_unjoined(plan, answers, takes), wanted)
            seen.append(wanted)
        self.assertTrue(seen.count(True) > 50 and seen.count(False) > 50)
        self.assertIs(is_unjoined(LOST, ((1, 0),), ((1, 0),)), False)
        self.assertIs(is_unjoined(LOST, (), ((1, 0),)), True)


class Edges(Case):
    def test_with_and_without_the_ask_of_round_0(self):
        plain = (3, (TAKE, ("lose", 0), ASK))
        asked = (3, (("ask", 0, TWO_OF),) + plain[1])
        self.assertEqual((can_pass(plain), can_pass(asked), bare_pass(plain)), (True, True, True))
        self.assertRaises(errors.Unfit, bare_pass, asked)
        # The ask of round 1 bars that of round 0, if all of its LOT must have answered first.
        late = (1, (("ask", 1, ((0,),)), ("close", 0), ("ask", 0, ((0,),)), ("take", 0, ((0,),))))
        self.assertEqual((can_pass(late), pass_fate(late)), (False, None))
        early = (1, (("ask", 1, ((0,),)), ("ask", 0, ((0,),)), ("take", 0, ((),))))
        self.assertEqual(pass_fate(early), ((), (), (("ask", 0, 0), ("ask", 1, 0)), ()))

    def test_with_and_without_the_take_of_round_1(self):
        plan = (2, (("take", 0, ((0,),)), ("ask", 1, ((1,),)), ("copy", 0, 1), ("lose", 1)))
        self.assertIs(can_pass(plan), True)
        ends = plan[0], plan[1][:2] + (("take", 1, ((1,),)),) + plan[1][2:]
        self.assertIs(can_pass(ends), True)
        closed = (2, (("close", 1), ("take", 0, ((0,),)), ("ask", 1, ((1,),)), ("lose", 1)))
        self.assertIs(can_pass(closed), True)
        barred = (2, closed[1][:3] + (("take", 1, ((1,),)),) + closed[1][3:])
        self.assertEqual((can_pass(barred), is_fate(barred, ((),) * 6)), (False, False))

    def test_answers_behind_the_take_of_round_1_do_not_count(self):
        steps = ("take", 0, ((0,),)), ("ask", 1, ((0,), (1,))), ("take", 1, ((0,),))
        late = ((), (("take", 0, 0),), (("ask", 1, 0),), (("ask", 1, 1),))
        self.assertEqual((is_fate((2, steps), late), is_passed((2, steps), late)), (True, False))
        early = ((), (("take", 0, 0),), (("ask", 1, 0), ("ask", 1, 1)), ())
        self.assertEqual((is_fate((2, steps), early), is_passed((2, steps), early)), (True, True))
        self.assertEqual((is_fate((2, steps[:2]), late[:3]), is_passed((2, steps[:2]), late[:3])), (True, False))
        self.assertIs(is_passed((2, steps[:2] + (("lose", 0),)), late), True)

    def test_closed_places(self):
        self.assertEqual((can_pass(PLAN), bare_pass(PLAN)), (False, True))
        self.assertIs(can_pass((2, (("close", 0), ("take", 0, ((0,),)), ("ask", 1, ((1,),))))), False)
        self.assertIs(can_pass((2, (("close", 0), ("take", 0, ((0,),)), ("ask", 1, ((1,),)), ("lose", 0)))), True)

    def test_answers_twice_and_places_lost_between(self):
        fate = ((), (("take", 0, 0), ("take", 0, 0)), (), ())
        self.assertIs(is_fate(LOST, fate), False)
        self.assertIs(is_fate(LOST, ((), (("take", 0, 0),), (("take", 0, 0),), ())), False)
        self.assertIs(is_fate(LOST, ((), (("take", 0, 0),), (("take", 0, 1),), (("ask", 1, 0), ("ask", 1, 1)))), True)
        self.assertIs(is_passed(LOST, ((), (("take", 0, 0), ("take", 0, 1)), (), (("ask", 1, 0), ("ask", 1, 1)))),
                      False)

    def test_a_lot_of_nobody(self):
        plan = (2, (("take", 0, ((),)), ("ask", 1, ((),))))
        self.assertEqual((can_pass(plan), pass_fate(plan), is_passed(plan, ((), (), ()))), (True, ((), (), ()), True))
        self.assertIs(bare_pass((2, (("take", 0, ((0,),)), ("ask", 1, ((0,),))))), True)
        self.assertIs(can_pass((2, (("take", 0, ((0,),)), ("ask", 1, ((0,),))))), False)

    def test_at_the_bounds(self):
        four, all_of = by_count(range(4), 2), ((0, 1, 2, 3),)
        moves = (("copy", 0, 1), ("lose", 0), ("close", 2), ("lose", 2), ("copy", 3, 2), ("lose", 1))
        for family in (four, by_count(range(4), 3), all_of):
            for extra in (moves, moves[::-1], (("wait",),) * 0 + moves[2:] + moves[:2]):
                plan = (4, (("take", 0, family), ("ask", 1, family)) + extra)
                fate = pass_fate(plan)
                self.assertEqual(fate is None, not can_pass(plan))
                self.assertTrue(fate is None or fates.is_legal(plan, fate) == (True, True))
                self.assertLessEqual(can_pass(plan), bare_pass(plan))
                full = (4, (("ask", 0, family),) + plan[1][:2] + extra[:4] + (("take", 1, family),))
                fate = pass_fate(full)
                self.assertTrue(fate is None or fates.is_legal(full, fate) == (True, True))


class Things(Case):
    def test_is_plan(self):
        one, two = ("take", 0, ((0,),)), ("ask", 1, ((),))
        for thing in (LOST, PLAN, FULL, (1, (one, two)), (1, (two, one)), (9, (two, ("take", 1, ((8,),)), one)),
                      (2, (("copy", 1, 0), ("lose", 1), two, ("close", 0), one)),
                      (1, (("ask", 0, ((0,),)), one, two)), (1, (("ask", 0, ((0,),)), two, one, ("take", 1, ((),))))):
            self.assertIs(is_plan(thing), True, thing)
        for thing in (None, 0, True, "", "ab", (), [3, (TAKE, ASK)], (3,), (3, [TAKE, ASK]), (3, (list(TAKE), ASK)),
                      (3, (TAKE, ASK), 0), (True, (one, two)), (0, (("take", 0, ((),)), two)), (-1, (one, two)),
                      ("3", (TAKE, ASK)), (3, ()), (3, (TAKE,)), (3, (ASK,)), (3, (TAKE, TAKE, ASK)),
                      (3, (TAKE, ASK, ASK)), (3, (TAKE, ("ask", 0, TWO_OF), ASK)),
                      (3, (("ask", 0, TWO_OF), ("ask", 0, TWO_OF), TAKE, ASK)), (3, (TAKE, ("take", 1, TWO_OF), ASK)),
                      (3, (TAKE, ASK, ("take", 1, TWO_OF), ("take", 1, TWO_OF))), (2, (TAKE, ASK)),
                      (3, (("take", False, TWO_OF), ASK)), (3, (TAKE, ("ask", True, TWO_OF))),
                      (3, (TAKE, ASK, ("take", 2, TWO_OF))), (3, (TAKE, ASK, ("ask", -1, TWO_OF))),
                      (3, (TAKE, ASK, ("take", 1))), (3, (TAKE, ASK, ("take", 1, TWO_OF, 0))), (3, (TAKE, ASK, None)),
                      (3, (TAKE, ASK, ("take", 1, ()))), (3, (TAKE, ASK, ("take", 1, [(0,)]))),
                      (3, (TAKE, ASK, ("take", 1, ((0,), (0, 1))))), (3, (TAKE, ASK, ("copy", 0))),
                      (3, (TAKE, ASK, ("copy", 0, 0))), (3, (TAKE, ASK, ("copy", 0, 3))), (3, (TAKE, ASK, ("lose", 3))),
                      (3, (TAKE, ASK, ("lose", 0, 1))), (3, (TAKE, ASK, ("close", -1))), (3, (TAKE, ASK, ("close",))),
                      (3, (TAKE, ASK, ("lose", True))), (3, (TAKE, ASK, ("wait", 0))), (3, (TAKE, ASK, ())),
                      (3, (TAKE, ASK, ("close", "0"))), (3, (TAKE, ASK, ("copy", 0, "1"))),
                      (3, (TAKE, ASK, ("copy", 0, True))),
                      (3, (TAKE, ASK, ("copy", False, 1))), (3, (TAKE, ASK, ("copy", 0, None))),
                      (3, (TAKE, ASK, (("lose",), 0))), (3, (TAKE, ASK, "lose"))):
            self.assertIs(is_plan(thing), False, thing)

    def test_is_fate(self):
        self.assertIs(is_fate(LOST, PASSING), True)
        self.assertIs(is_fate(LOST, ((), (), (), ())), True)
        for thing in (None, 0, True, "", "abcd", (), [(), (), (), ()], ((), (), ()), ((),) * 5, ((), (), (), []),
                      ((), (), (), None), ((), (["take", 0, 0],), (), ()), ((), (("take", 0),), (), ()),
                      ((), (("take", 0, 0, 0),), (), ()), ((), (("take", False, 0),), (), ()),
                      ((), (("take", 0, False),), (), ()), ((), (("take", 0, 3),), (), ()),
                      ((), (("take", 0, -1),), (), ()), ((), (("take", 1, 0),), (), ()), ((), (("ask", 0, 0),), (), ()),
                      ((("take", 0, 0),), (), (), ()), ((), (("ask", 1, 0),), (), ()), ((), (), (("ask", 1, 0),), ()),
                      ((), (("lose", 0, 0),), (), ()), ((), (("take", "0", 0),), (), ()), ((), (None,), (), ()),
                      ((), (("take", 0, 10 ** 30),), (), ()), ((), ((("take",), 0, 0),), (), ()), ((), "ab", (), ())):
            self.assertIs(is_fate(LOST, thing), False, thing)
        self.assertIs(is_fate((4, PLAN[1]), ((), (), (), (), (("ask", 1, 0),))), False)
        for answer in (("copy", 0, 3), ("close", 0, 0), ("copy", 0, 0), ("lose", 0, 0)):
            self.assertIs(is_fate(PLAN, ((), (), (), (), (answer,))), False)
            self.assertIs(is_fate(LOST, ((), (), (), (answer,))), False)
        self.assertIs(is_fate(PLAN, ((), (), (("take", 0, 0),), (), ())), False)


if __name__ == "__main__":
    unittest.main()
