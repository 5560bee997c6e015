"""Point 19: showings of the least."""

import random
import unittest
from unittest import mock

from allasked.papers import holds_out
from allasked.plans import lets_by, worst
from allasked.shown import showing_of, shows
from allasked.turns import keeps
from tests.samples import ALL_FOUR, ALL_THREE, FRAMES, NO_TIES, ONE_PLACE, ONE_TIE, RING_OF_SEVEN, ROW_OF_EIGHT
from tests.samples import STAR_OF_EIGHT, all_known, all_plans, all_webs, at_once, doubled, fault_by_hand, full_plan
from tests.samples import kinds_of, least_by_hand, nested, nothing, paper_by_hand, plain, simple_wishes, some_known
from tests.samples import some_wish, strange_things, truths_by_hand, turns_by_hand, with_end_changed

YES = ("end", True)
NO = ("end", False)
A, B, C = ALL_THREE[1]
NOTHING = (None, None, None)
JOINED = ("joined",)
STAY = (0, 1, 2)
FIRST = (NOTHING, 3, ((A, B), ()), ((True, 1, STAY), (True, 1, (0, 2, 1)), (True, 1, (2, 0, 1))))
SECOND = ((True, None, None), 2, ((A, B), (A,)), ((False, 2, STAY), (False, 2, (1, 0, 2))))
THIRD = ((True, False, None), 1, ((A, C), (A,)), ())
PAPER = [FIRST, SECOND, THIRD]
PLAN = ("ask", A, ("ask", B, YES, ("ask", C, YES, NO)), ("ask", B, ("ask", C, YES, NO), NO))
SHOWING = (3, PLAN, PAPER)
HEAVY = nested(("ring",), lambda inner: ("one", inner, ("sides",)), 11)


class Shows(unittest.TestCase):
    def yes(self, *things, frame=ALL_THREE, wish=JOINED, known=NOTHING):
        for thing in things:
            self.assertIs(shows(frame, wish, known, thing), True, thing)

    def no(self, *things, frame=ALL_THREE, wish=JOINED, known=NOTHING):
        for thing in things:
            self.assertIs(shows(frame, wish, known, thing), False)

    def test_right_ones(self):
        self.yes(SHOWING, (3, full_plan(ALL_THREE, JOINED, NOTHING, (C, A, B)), PAPER), (3, PLAN, PAPER + [THIRD]))
        self.yes((2, ("ask", B, YES, ("ask", C, YES, NO)), paper_by_hand(ALL_THREE, JOINED, (True, None, None))),
                 known=(True, None, None))
        self.yes((0, YES, [((True, True, None), 0, (), ())]), known=(True, True, None))
        for frame, truth in ((ONE_PLACE, True), (NO_TIES, False)):
            self.yes((0, ("end", truth), [((), 0, (), ())]), frame=frame, known=())
            self.no((0, ("end", not truth), [((), 0, (), ())]), frame=frame, known=())

    def test_the_number(self):
        for wrong in [4, 2, 1, 0, -1, 10 ** 30 - 1, -(10 ** 29), True, False, None, "", "3", (3,), [3], (), [], {}, {3: 3}]:
            self.no((wrong, PLAN, PAPER))
        one = ((None,), 1, (((0, 1),), ()), ())
        ask = ("ask", (0, 1), YES, NO)
        self.yes((1, ask, [one]), frame=ONE_TIE, wish=("tie", 0, 1), known=(None,))
        self.no((True, ask, [one]), (0, ask, [one]), (2, ask, [one]), frame=ONE_TIE, wish=("tie", 0, 1), known=(None,))
        self.yes((0, YES, [((), 0, (), ())]), frame=ONE_PLACE, known=())
        self.no((False, YES, [((), 0, (), ())]), (-1, YES, [((), 0, (), ())]), (1, YES, [((), 0, (), ())]), frame=ONE_PLACE,
                known=())

    def test_the_plan_with_an_end_turned_about(self):
        for web in all_webs(ALL_THREE):
            self.no((3, with_end_changed(PLAN, web), PAPER))

    def test_the_plan_with_an_ask_too_many(self):
        wish = ("tie", 0, 1)
        paper = [(NOTHING, 1, ((A,), ()), ())]
        ask = ("ask", A, YES, NO)
        self.yes((1, ask, paper), wish=wish)
        for plan in [("ask", B, ask, ask), ("ask", A, ("ask", B, YES, YES), NO), ("ask", A, YES, ("ask", C, NO, NO))]:
            self.assertIs(lets_by(ALL_THREE, wish, NOTHING, plan), True)
            self.no((1, plan, paper), (2, plan, paper), wish=wish)

    def test_no_plan(self):
        for wrong in [None, True, 3, "", "yes", (), [], {}, ("end",), ("end", 1), ["end", True], ("ask", A, YES), list(PLAN),
                      ("ask", (1, 0), PLAN[2], PLAN[3]), ("ask", (0, True), PLAN[2], PLAN[3]), ("ask", A, PLAN, PLAN),
                      ("ask", A, ("ask", B, YES, ("ask", C, ("end", 1), NO)), PLAN[3]), PAPER, FIRST, SHOWING, YES, NO]:
            self.no((3, wrong, PAPER))
        # A plan from nothing known, but none from there.
        paper = paper_by_hand(ALL_THREE, JOINED, (True, None, None))
        self.no((2, PLAN, paper), (3, PLAN, paper), known=(True, None, None))

    def test_the_paper(self):
        lesser = [(NOTHING, 2, FIRST[2], FIRST[3]), (SECOND[0], 1, SECOND[2], ()), THIRD]
        self.assertIs(holds_out(ALL_THREE, JOINED, NOTHING, 2, lesser), True)
        self.no((3, PLAN, lesser), (2, PLAN, lesser))
        for wrong in [[], None, True, 3, "", (), {}, tuple(PAPER), [FIRST], PAPER[1:], PAPER[:2], [THIRD] + PAPER, PAPER + [None],
                      [PAPER], (PAPER,), PLAN, PAPER + [((1, None, None), 0, (), ())], [(NOTHING, 0, (), ())],
                      [(NOTHING, "3", FIRST[2], FIRST[3]), SECOND, THIRD]]:
            self.no((3, PLAN, wrong))
        for number in (3, 2, 1, 0):
            self.no((number, PLAN, [(NOTHING, 1, ((A, B), ()), ())]), (number, PLAN, []))

    def test_other_kinds_in_the_place_of_the_whole(self):
        self.no(list(SHOWING), (), (3,), (3, PLAN), (PLAN, PAPER), (3, PLAN, PAPER, PAPER), (3, PLAN, PAPER, None), (3, PAPER, PLAN),
                (PLAN, 3, PAPER), (PAPER, PLAN, 3), (SHOWING,), [SHOWING], {0: 3, 1: PLAN, 2: PAPER}, None, True, False, 3, "",
                "3", "abc", ("a", "b", "c"), (None, None, None), SHOWING + SHOWING, (SHOWING, SHOWING, SHOWING))

    def test_strange_things_in_each_place(self):
        for at, thing in enumerate(strange_things()):
            with self.subTest(at=at), at_once():
                self.no(thing, (thing,), (thing, thing, thing), (thing, PLAN, PAPER), (3, thing, PAPER), (3, PLAN, thing),
                        (3, PLAN, [thing]), (3, PLAN, PAPER + [thing]), (3, PLAN, PAPER, thing), [3, PLAN, PAPER],
                        (3, ("ask", A, thing, NO), PAPER), (3, ("ask", thing, YES, NO), PAPER))
        with at_once():
            self.no(doubled(SHOWING), nested(SHOWING, lambda thing: (thing,)), (3, doubled(PLAN), PAPER),
                    (3, doubled(PLAN, 30, lambda plan: ("ask", A, plan, plan)), PAPER), (3, PLAN, doubled(PAPER)))

    def test_another_wish_or_known(self):
        self.no(SHOWING, wish=("ring",))
        self.no(SHOWING, wish=("not", JOINED))
        self.yes(SHOWING, wish=("many", 2))
        for known in all_known(ALL_THREE)[1:]:
            self.no(SHOWING, known=known)

    def test_whatever_shows_a_number_shows_the_least(self):
        chance = random.Random(19)
        plans = chance.sample(all_plans(ALL_THREE[1]), 400)
        shown = 0
        for wish in [JOINED, ("tie", 0, 1), ("way", 0, 1), ("one", ("tie", 0, 1), ("tie", 0, 2)), ("many", 0), ("odd",)]:
            for known in [NOTHING, (None, True, None), (False, None, None)]:
                found = least_by_hand(ALL_THREE, wish, known)
                papers = [paper_by_hand(ALL_THREE, wish, known), [(known, 0, (), ())], showing_of(ALL_THREE, wish, known)[2]]
                more = [full_plan(ALL_THREE, wish, known), showing_of(ALL_THREE, wish, known)[1]]
                for plan in plans + more:
                    for paper in papers:
                        for number in range(-1, 5):
                            if shows(ALL_THREE, wish, known, (number, plan, paper)):
                                shown += 1
                                self.assertEqual(number, found)
                                self.assertIsNone(fault_by_hand(ALL_THREE, wish, known, plan))
        self.assertGreater(shown, 30)


class ShowingOf(unittest.TestCase):
    def told(self, frame, wish, known):
        """A showing is told that shows the least."""
        showing = showing_of(frame, wish, known)
        self.assertIs(type(showing), tuple)
        self.assertTrue(plain(showing))
        number, plan, paper = showing
        self.assertIs(type(number), int)
        self.assertEqual(number, least_by_hand(frame, wish, known), (frame, wish, known))
        self.assertIs(lets_by(frame, wish, known, plan), True)
        self.assertEqual(worst(plan), number)
        self.assertIs(holds_out(frame, wish, known, number, paper), True)
        self.assertLessEqual(len(paper), 3 ** len(frame[1]))
        self.assertIs(shows(frame, wish, known, showing), True)
        self.assertIs(shows(frame, wish, known, (number + 1, plan, paper)), False)
        self.assertIs(shows(frame, wish, known, (number - 1, plan, paper)), False)
        return showing

    def test_by_hand(self):
        self.assertEqual(self.told(ALL_THREE, JOINED, NOTHING)[0], 3)
        self.assertEqual(self.told(ALL_THREE, ("tie", 0, 2), NOTHING)[:2], (1, ("ask", B, YES, NO)))
        self.assertEqual(self.told(ALL_THREE, JOINED, (True, True, None)), (0, YES, [((True, True, None), 0, (), ())]))
        self.assertEqual(self.told(ONE_PLACE, JOINED, ()), (0, YES, [((), 0, (), ())]))
        self.assertEqual(self.told(NO_TIES, JOINED, ()), (0, NO, [((), 0, (), ())]))

    def test_from_all_that_may_be_known(self):
        chance = random.Random(190)
        for frame in (ONE_TIE, ALL_THREE, (4, ((0, 1), (0, 3), (1, 2), (2, 3)))):
            for wish in [JOINED, some_wish(frame, chance, 2), some_wish(frame, chance, 3)]:
                for known in all_known(frame):
                    self.told(frame, wish, known)

    def test_each_frame(self):
        chance = random.Random(191)
        for frame in FRAMES:
            for wish in chance.sample(simple_wishes(frame, chance), 2) + [some_wish(frame, chance, 2)]:
                for known in [nothing(frame), (False,) * len(frame[1])] + some_known(frame, chance, 1):
                    self.told(frame, wish, known)

    def test_seven_ties_in_good_time(self):
        with at_once(15):
            for frame in (RING_OF_SEVEN, ROW_OF_EIGHT, STAR_OF_EIGHT):
                for wish in (HEAVY, ("odd",), JOINED):
                    self.told(frame, wish, nothing(frame))

    def test_the_showing_is_the_askers_own(self):
        kept = showing_of(ALL_THREE, JOINED, NOTHING)
        before = kinds_of(kept)
        told = showing_of(ALL_THREE, JOINED, NOTHING)
        told[2].clear()
        self.assertIs(shows(ALL_THREE, JOINED, NOTHING, told), False)
        self.assertEqual(kinds_of(kept), before)
        self.told(ALL_THREE, JOINED, NOTHING)


class Once(unittest.TestCase):
    def test_the_table_is_reckoned_once(self):
        frame, known = RING_OF_SEVEN, nothing(RING_OF_SEVEN)
        with mock.patch("allasked.least.table_of", side_effect=truths_by_hand) as table:
            showing = showing_of(frame, JOINED, known)
        self.assertEqual(table.call_count, 1)
        asked = []

        def reckoned(frame, wish):
            asked.append(wish)
            return list(truths_by_hand(frame, wish))

        with mock.patch("allasked.shown.table_of", side_effect=reckoned):
            with mock.patch("allasked.papers.table_of", side_effect=reckoned):
                with mock.patch("allasked.plans.table_of", side_effect=reckoned):
                    self.assertIs(shows(frame, JOINED, known, showing), True)
        self.assertEqual(len(asked), 1)

    def test_each_order_is_reckoned_once(self):
        frame = ALL_FOUR
        paper = paper_by_hand(frame, JOINED, nothing(frame), turns_by_hand(frame))
        orders = [move[2] for row in paper for move in row[3]]
        plan = full_plan(frame, JOINED, nothing(frame))
        with mock.patch("allasked.papers.keeps", side_effect=keeps) as kept:
            self.assertIs(shows(frame, JOINED, nothing(frame), (6, plan, paper)), True)
        self.assertEqual(kept.call_count, len(set(orders)))

    def test_what_is_handed_in_stays(self):
        paper = [FIRST, SECOND, THIRD]
        strange = [3, ["end", True], [FIRST, [None], {}]]
        before = kinds_of(strange)
        for _ in range(2):
            self.assertIs(shows(ALL_THREE, JOINED, NOTHING, (3, PLAN, paper)), True)
            self.assertIs(shows(ALL_THREE, JOINED, NOTHING, strange), False)
            self.assertIs(shows(ALL_THREE, JOINED, NOTHING, tuple(strange)), False)
        self.assertEqual(paper, [FIRST, SECOND, THIRD])
        self.assertEqual(kinds_of(strange), before)
        paper.pop()
        self.assertIs(shows(ALL_THREE, JOINED, NOTHING, (3, PLAN, paper)), False)


if __name__ == "__main__":
    unittest.main()
