"""Points 17 and 18: papers that are told, and plans that are played against papers."""

import random
import unittest
from unittest import mock

from allasked.foes import paper_for, played
from allasked.least import least, plan_for
from allasked.papers import holds_out
from allasked.plans import lets_by
from tests.samples import ALL_FOUR, ALL_THREE, FRAMES, NO_TIES, ONE_PLACE, ONE_TIE, RING_OF_SEVEN, ROW_OF_EIGHT
from tests.samples import STAR_OF_EIGHT, all_known, all_plans, at_once, fault_by_hand, full_plan, keeps_by_hand, kinds_of
from tests.samples import least_by_hand, nested, nothing, paper_by_hand, plain, simple_wishes, some_known, some_plan
from tests.samples import some_wish, truths_by_hand, turned_by_hand, turns_by_hand, two_by_hand, with_tie

YES = ("end", True)
NO = ("end", False)
A, B, C = ALL_THREE[1]
NOTHING = (None, None, None)
JOINED = ("joined",)
STAY = (0, 1, 2)
SQUARE = (4, ((0, 1), (0, 3), (1, 2), (2, 3)))
HEAVY = nested(("ring",), lambda inner: ("one", inner, ("sides",)), 11)
# By hand, with orders other than the still one.
FIRST = (NOTHING, 3, ((A, B), ()), ((True, 1, STAY), (True, 1, (0, 2, 1)), (True, 1, (2, 0, 1))))
SECOND = ((True, None, None), 2, ((A, B), (A,)), ((False, 2, STAY), (False, 2, (1, 0, 2))))
THIRD = ((True, False, None), 1, ((A, C), (A,)), ())
PAPER = [FIRST, SECOND, THIRD]


def free_ties(frame, known):
    return [tie for tie, truth in zip(frame[1], known) if truth is None]


def played_by_hand(frame, paper, plan):
    """The play, each tie turned by one order behind another."""
    orders, at, told = [], 0, []
    while plan[0] == "ask":
        tie = plan[1]
        known, rest, _, moves = paper[at]
        answer = False
        if rest > 1:
            turned = tie
            for order in orders:
                turned = turned_by_hand(order, (turned,))[0]
            answer, at, order = dict(zip(free_ties(frame, known), moves))[turned]
            orders.append(order)
        told.append((tie, answer))
        plan = plan[2] if answer else plan[3]
    return told


class PaperFor(unittest.TestCase):
    def told(self, frame, wish, known):
        """A paper is told that holds out for the least and no more, and isn't too long."""
        paper = paper_for(frame, wish, known)
        found = least_by_hand(frame, wish, known)
        self.assertIs(type(paper), list)
        self.assertTrue(plain(paper))
        self.assertIs(holds_out(frame, wish, known, found, paper), True, (frame, wish, known))
        self.assertIs(holds_out(frame, wish, known, found + 1, paper), False)
        self.assertEqual(paper[0][:2], (known, found))
        self.assertLessEqual(len(paper), 3 ** len(frame[1]))
        return paper

    def test_settled(self):
        for frame in FRAMES:
            for wish in (("many", 0), ("many", 99)):
                for known in (nothing(frame), (True,) * len(frame[1])):
                    self.assertEqual(self.told(frame, wish, known)[0], (known, 0, (), ()))
        for known in all_known(ALL_THREE):
            if least_by_hand(ALL_THREE, JOINED, known) == 0:
                self.assertEqual(self.told(ALL_THREE, JOINED, known)[0], (known, 0, (), ()))

    def test_one_ask(self):
        for frame in (ONE_TIE, ALL_THREE, RING_OF_SEVEN):
            for a, b in frame[1]:
                row = self.told(frame, ("tie", a, b), nothing(frame))[0]
                self.assertIn((a, b), row[2][0])
                self.assertNotIn((a, b), row[2][1])
                self.assertEqual(row[3], ())

    def test_all_asks(self):
        for frame in FRAMES:
            paper = self.told(frame, ("odd",), nothing(frame))
            self.assertEqual(paper[0][1], len(frame[1]))
        for frame, wish in [(ALL_FOUR, JOINED), (ROW_OF_EIGHT, JOINED), (STAR_OF_EIGHT, ("hub",)), (RING_OF_SEVEN, ("ring",))]:
            self.assertEqual(self.told(frame, wish, nothing(frame))[0][1], len(frame[1]))

    def test_from_all_that_may_be_known(self):
        chance = random.Random(17)
        for frame in (ONE_PLACE, NO_TIES, ONE_TIE, ALL_THREE, SQUARE):
            for wish in [JOINED, ("lone",), some_wish(frame, chance, 2), some_wish(frame, chance, 3)]:
                for known in all_known(frame):
                    self.told(frame, wish, known)

    def test_all_truths_of_two_ties(self):
        frame = (3, ((0, 1), (1, 2)))
        for number in range(16):
            wish = ("told", tuple(bool(number >> k & 1) for k in range(4)))
            for known in all_known(frame):
                self.told(frame, wish, known)

    def test_each_frame(self):
        chance = random.Random(170)
        for frame in FRAMES:
            for wish in chance.sample(simple_wishes(frame, chance), 3) + [some_wish(frame, chance, 2)]:
                for known in [nothing(frame)] + some_known(frame, chance, 2):
                    self.told(frame, wish, known)

    def test_seven_ties_in_good_time(self):
        chance = random.Random(171)
        with at_once(15):
            for frame in (RING_OF_SEVEN, ROW_OF_EIGHT, STAR_OF_EIGHT):
                table = tuple(chance.random() < 0.5 for _ in range(128))
                for wish in (HEAVY, ("told", table), ("odd",), JOINED):
                    self.told(frame, wish, nothing(frame))

    def test_the_table_is_reckoned_once(self):
        for call in (paper_for, plan_for):
            with mock.patch("allasked.least.table_of", side_effect=truths_by_hand) as table:
                call(RING_OF_SEVEN, JOINED, nothing(RING_OF_SEVEN))
            self.assertEqual(table.call_count, 1)

    def test_the_paper_is_the_askers_own(self):
        known = (None, True, None)
        kept = paper_for(ALL_THREE, JOINED, known)
        before = kinds_of(kept)
        told = paper_for(ALL_THREE, JOINED, known)
        told.clear()
        told = paper_for(ALL_THREE, JOINED, known)
        told.append(None)
        told.reverse()
        self.assertEqual(kinds_of(kept), before)
        self.told(ALL_THREE, JOINED, known)
        self.assertEqual(least(ALL_THREE, JOINED, known), 2)


class Played(unittest.TestCase):
    def play(self, frame, paper, plan):
        """The play, looked at."""
        before = list(paper)
        told = played(frame, paper, plan)
        self.assertEqual(kinds_of(told), kinds_of(played_by_hand(frame, paper, plan)), (frame, paper, plan))
        self.assertIs(type(told), list)
        self.assertEqual(paper, before)
        # The foe answers such that the plan goes just this way.
        rest = plan
        for tie, answer in told:
            self.assertEqual(rest[1], tie)
            rest = rest[2] if answer else rest[3]
        self.assertEqual(rest[0], "end")
        return told

    def test_by_hand(self):
        plan = full_plan(ALL_THREE, JOINED, NOTHING)
        self.assertEqual(self.play(ALL_THREE, PAPER, plan), [(A, True), (B, False), (C, False)])
        for order, right in [((B, A, C), [(B, True), (A, False), (C, False)]), ((C, A, B), [(C, True), (A, False), (B, False)]),
                             ((C, B, A), [(C, True), (B, False), (A, False)])]:
            plan = full_plan(ALL_THREE, JOINED, NOTHING, order)
            self.assertEqual(self.play(ALL_THREE, PAPER, plan), right)
        self.assertEqual(self.play(ALL_THREE, PAPER, ("ask", C, YES, NO)), [(C, True)])
        self.assertEqual(self.play(ALL_THREE, [SECOND[:3] + (((False, 1, STAY), (False, 1, (1, 0, 2))),), THIRD],
                                   ("ask", C, NO, ("ask", B, YES, NO))), [(C, False), (B, False)])

    def test_one_end_alone(self):
        for plan in (YES, NO):
            self.assertEqual(self.play(ALL_THREE, PAPER, plan), [])
            for frame in (ONE_PLACE, NO_TIES):
                self.assertEqual(self.play(frame, [((), 0, (), ())], plan), [])

    def test_a_rest_of_0_or_1(self):
        plan = ("ask", B, YES, ("ask", A, NO, ("ask", C, YES, NO)))
        for row in [(NOTHING, 0, (), ()), (NOTHING, 1, ((A, B), (C,)), ())]:
            for more in ([], PAPER):
                self.assertEqual(self.play(ALL_THREE, [row] + more, plan), [(B, False), (A, False), (C, False)])
        # All moves of the first row go to a row with a rest of 1, at which the foe stays.
        rows = [(NOTHING, 2, ((A, B), ()), ((True, 1, STAY), (True, 1, (0, 2, 1)), (True, 1, (2, 0, 1)))),
                ((True, None, None), 1, ((A, B), (A,)), ())]
        self.assertIs(holds_out(ALL_THREE, JOINED, NOTHING, 2, rows), True)
        for plan in all_plans(ALL_THREE[1]):
            told = played(ALL_THREE, rows, plan)
            self.assertEqual([answer for tie, answer in told], [True, False, False][:len(told)])

    def test_several_orders_one_behind_another(self):
        # A known tie is led to and fro, so only the orders in their order find the move.
        for frame, wish in [(ALL_FOUR, JOINED), (ALL_FOUR, ("ring",)), (SQUARE, JOINED), (ALL_THREE, ("odd",))]:
            chance = random.Random(18)
            for turn in range(6):
                orders = chance.sample(turns_by_hand(frame), len(turns_by_hand(frame)))
                paper = paper_by_hand(frame, wish, nothing(frame), orders)
                used = {move[2] for row in paper for move in row[3]}
                self.assertGreater(len(used), 1)
                self.assertIs(holds_out(frame, wish, nothing(frame), paper[0][1], paper), True)
                for _ in range(25):
                    order = tuple(chance.sample(frame[1], len(frame[1])))
                    plan = full_plan(frame, wish, nothing(frame), order)
                    self.assertGreaterEqual(len(self.play(frame, paper, plan)), paper[0][1])

    def test_answers_that_the_orders_tell_apart(self):
        # Of each tie the foe answers otherwise by which one it becomes.
        frame = ALL_FOUR
        wish = ("odd",)
        chance = random.Random(180)
        for _ in range(3):
            orders = turns_by_hand(frame)
            goals, rows = [nothing(frame)], []
            while len(rows) < len(goals):
                known = goals[len(rows)]
                rest = known.count(None)
                moves = []
                for tie in free_ties(frame, known) if rest > 1 else []:
                    answer, order = chance.choice((True, False)), chance.choice(orders)
                    by_tie = dict(zip(frame[1], with_tie(frame, known, tie, answer)))
                    turned = {turned_by_hand(order, (other,))[0]: truth for other, truth in by_tie.items()}
                    goal = tuple(turned[other] for other in frame[1])
                    if goal not in goals:
                        goals.append(goal)
                    moves.append((answer, goals.index(goal), order))
                rows.append((known, rest, two_by_hand(frame, wish, known) if rest else (), tuple(moves)))
            self.assertIs(holds_out(frame, wish, nothing(frame), 6, rows), True)
            for _ in range(60):
                order = tuple(chance.sample(frame[1], len(frame[1])))
                self.assertEqual(len(self.play(frame, rows, full_plan(frame, wish, nothing(frame), order))), 6)
                self.play(frame, rows, some_plan(frame[1], chance))

    def test_all_plans_of_three_ties(self):
        papers = [PAPER, paper_for(ALL_THREE, JOINED, NOTHING)]
        for plan in all_plans(ALL_THREE[1])[::7]:
            right = fault_by_hand(ALL_THREE, JOINED, NOTHING, plan) is None
            for paper in papers:
                told = self.play(ALL_THREE, paper, plan)
                if right:
                    self.assertGreaterEqual(len(told), 3)

    def test_against_told_papers(self):
        chance = random.Random(181)
        for frame in FRAMES:
            for wish in [JOINED, some_wish(frame, chance, 2)]:
                for known in [nothing(frame)] + some_known(frame, chance, 2):
                    paper = paper_for(frame, wish, known)
                    free = free_ties(frame, known)
                    for plan in [plan_for(frame, wish, known), full_plan(frame, wish, known),
                                 full_plan(frame, wish, known, tuple(chance.sample(free, len(free))))]:
                        self.assertIs(lets_by(frame, wish, known, plan), True)
                        self.assertGreaterEqual(len(self.play(frame, paper, plan)), paper[0][1])
                    self.assertEqual(len(self.play(frame, paper, plan_for(frame, wish, known))), paper[0][1])
                    for _ in range(3):
                        self.play(frame, paper, some_plan(free, chance))

    def test_against_papers_by_hand_from_something_known(self):
        chance = random.Random(182)
        for frame in (ALL_THREE, SQUARE, ALL_FOUR):
            for wish in (JOINED, ("odd",), ("lone",)):
                for known in some_known(frame, chance, 5):
                    orders = [order for order in turns_by_hand(frame) if keeps_by_hand(frame, wish, order)]
                    paper = paper_by_hand(frame, wish, known, orders)
                    free = free_ties(frame, known)
                    for plan in [full_plan(frame, wish, known, tuple(chance.sample(free, len(free)))), some_plan(free, chance)]:
                        told = self.play(frame, paper, plan)
                        if lets_by(frame, wish, known, plan):
                            self.assertGreaterEqual(len(told), paper[0][1])

    def test_papers_that_hold_out_for_less(self):
        lesser = [(FIRST[0], 2, FIRST[2], FIRST[3]), (SECOND[0], 1, SECOND[2], ()), THIRD]
        self.assertIs(holds_out(ALL_THREE, JOINED, NOTHING, 2, lesser), True)
        plan = full_plan(ALL_THREE, JOINED, NOTHING, (C, B, A))
        self.assertEqual(self.play(ALL_THREE, lesser, plan), [(C, True), (B, False), (A, False)])

    def test_the_list_is_the_askers_own(self):
        plan = full_plan(ALL_THREE, JOINED, NOTHING)
        kept = played(ALL_THREE, PAPER, plan)
        told = played(ALL_THREE, PAPER, plan)
        told.clear()
        self.assertEqual(kept, [(A, True), (B, False), (C, False)])
        self.assertEqual(played(ALL_THREE, PAPER, plan), kept)
        self.assertEqual(PAPER, [FIRST, SECOND, THIRD])


if __name__ == "__main__":
    unittest.main()
