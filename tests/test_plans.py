"""Points 12 and 13: plans, and which are let by."""

import random
import unittest

from allasked.plans import ends, fault, followed, is_plan, lets_by, worst
from tests.samples import ALL_FOUR, ALL_THREE, FRAMES, NO_TIES, ONE_PLACE, ONE_TIE, RING_OF_SEVEN
from tests.samples import all_known, all_plans, all_webs, at_once, doubled, fault_by_hand, fitting_by_hand, full_plan
from tests.samples import nested, nothing, plain, simple_wishes, some_plan, some_wish, strange_things, with_end_changed

YES = ("end", True)
NO = ("end", False)
A, B, C = ALL_THREE[1]
NOTHING = (None, None, None)
JOINED = ("ask", A, ("ask", B, YES, ("ask", C, YES, NO)), ("ask", B, ("ask", C, YES, NO), NO))
BY_UNLIKE_WAYS = ("ask", C, NO, ("ask", A, YES, ("ask", B, NO, YES)))
WITH_B_GONE = (None, False, None)
JOINED_WITH_B_GONE = ("ask", A, ("ask", C, YES, NO), NO)


class IsPlan(unittest.TestCase):
    def yes(self, frame, known, *things):
        for thing in things:
            self.assertIs(is_plan(frame, known, thing), True, (frame, known, thing))

    def no(self, frame, known, *things):
        for thing in things:
            self.assertIs(is_plan(frame, known, thing), False, (frame, known, thing))

    def test_ends(self):
        for frame in FRAMES:
            self.yes(frame, nothing(frame), YES, NO)
            self.yes(frame, (True,) * len(frame[1]), YES, NO)

    def test_asks(self):
        self.yes(ALL_THREE, NOTHING, ("ask", A, YES, NO), ("ask", C, NO, NO), JOINED, BY_UNLIKE_WAYS)
        self.yes(ALL_THREE, NOTHING, ("ask", A, ("ask", B, YES, NO), ("ask", B, NO, YES)), JOINED_WITH_B_GONE)

    def test_all_plans(self):
        for frame in (ONE_TIE, (3, ((0, 1), (1, 2)))):
            for known in all_known(frame):
                free = [tie for tie, truth in zip(frame[1], known) if truth is None]
                right = set(all_plans(free))
                for plan in all_plans(frame[1]):
                    self.assertIs(is_plan(frame, known, plan), plan in right, (known, plan))

    def test_some_plans(self):
        chance = random.Random(12)
        for frame in FRAMES:
            self.yes(frame, nothing(frame), full_plan(frame, ("odd",), nothing(frame)))
            for _ in range(12):
                known = tuple(chance.choice((None, None, True, False)) for _ in frame[1])
                free = [tie for tie, truth in zip(frame[1], known) if truth is None]
                plan = some_plan(free, chance)
                self.yes(frame, known, plan, ("ask", free[0], YES, NO) if free else YES)
                for tie, truth in zip(frame[1], known):
                    if truth is not None:
                        self.no(frame, known, ("ask", tie, YES, NO), ("ask", tie, plan, plan))

    def test_an_end_without_a_truth(self):
        for wrong in [0, 1, -1, "", "yes", "True", None, (), (True,), [], [True], {}, ("end", True)]:
            self.no(ALL_THREE, NOTHING, ("end", wrong), ("ask", A, ("end", wrong), YES), ("ask", A, YES, ("end", wrong)))

    def test_how_many_parts(self):
        self.no(ALL_THREE, NOTHING, (), ("end",), ("end", True, True), ("end", True, YES, NO), ("end", A, YES, NO))
        self.no(ALL_THREE, NOTHING, ("ask",), ("ask", A), ("ask", A, YES), ("ask", A, YES, NO, NO), ("ask", True))
        self.no(ALL_THREE, NOTHING, ("ask", 0, 1, YES, NO), ("ask", YES, NO), ("ask", A, (YES, NO)), (A, YES, NO))

    def test_no_tie_that_may_be_asked(self):
        for wrong in [(1, 0), (2, 0), (2, 1), (0, 0), (0, 3), (-1, 0), (0,), (0, 1, 2), (), [0, 1], "01", "0-1", None,
                      0, 1, True, (0, True), (False, 1), (False, True), (True, 2), {0: 1}, ("tie", 0, 1), (A,), (A, B)]:
            self.no(ALL_THREE, NOTHING, ("ask", wrong, YES, NO), ("ask", A, ("ask", wrong, YES, NO), NO))
            self.no(ALL_THREE, NOTHING, ("ask", A, YES, ("ask", wrong, YES, NO)))
        self.no((3, (A, C)), (None, None), ("ask", B, YES, NO))
        self.no(ONE_PLACE, (), ("ask", A, YES, NO))
        self.no(NO_TIES, (), ("ask", A, YES, NO))

    def test_a_tie_that_is_known(self):
        for truth in (True, False):
            self.yes(ALL_THREE, (None, truth, None), ("ask", A, YES, NO), ("ask", C, ("ask", A, YES, NO), YES))
            self.no(ALL_THREE, (None, truth, None), ("ask", B, YES, NO), ("ask", A, ("ask", B, YES, NO), NO))
            self.no(ALL_THREE, (None, truth, None), ("ask", A, YES, ("ask", B, YES, NO)), JOINED)
            self.no(ALL_THREE, (truth,) * 3, ("ask", A, YES, NO), ("ask", B, YES, NO), ("ask", C, YES, NO))
        self.yes(ALL_THREE, WITH_B_GONE, JOINED_WITH_B_GONE)

    def test_a_tie_a_second_time_on_one_way(self):
        again = ("ask", A, YES, NO)
        self.no(ALL_THREE, NOTHING, ("ask", A, again, NO), ("ask", A, YES, again), ("ask", A, again, again))
        self.no(ALL_THREE, NOTHING, ("ask", A, ("ask", B, again, NO), NO), ("ask", A, ("ask", B, YES, again), NO))
        self.no(ALL_THREE, NOTHING, ("ask", A, YES, ("ask", B, again, NO)), ("ask", A, NO, ("ask", B, YES, again)))
        self.yes(ALL_THREE, NOTHING, ("ask", B, again, again), ("ask", C, ("ask", B, again, NO), again))

    def test_lists_in_the_place_of_tuples(self):
        self.no(ALL_THREE, NOTHING, ["end", True], ["ask", A, YES, NO], ("ask", [0, 1], YES, NO), [], [YES])
        self.no(ALL_THREE, NOTHING, ("ask", A, ["end", True], NO), ("ask", A, YES, ["end", False]))

    def test_other_words(self):
        for word in ["End", "end ", "ask", "", "yes", "no", None, 0, True, (), ("end",), ["end"], {}]:
            self.no(ALL_THREE, NOTHING, (word, True), (word,))
        for word in ["Ask", "ask ", "end", "", "asks", None, 0, True, (), ("ask",), ["ask"], {}]:
            self.no(ALL_THREE, NOTHING, (word, A, YES, NO), (word,))

    def test_strange_things_in_each_place(self):
        for frame in (ALL_THREE, ONE_PLACE, RING_OF_SEVEN):
            for at, thing in enumerate(strange_things()):
                with self.subTest(at=at), at_once():
                    wrong = [thing, (thing,), ("ask", thing, YES, NO), ("ask", A, thing, NO), ("ask", A, YES, thing),
                             ("ask", A, ("ask", (0, thing), YES, NO), YES), ("ask", (thing, 1), YES, NO),
                             ("end", True, thing), ("ask", A, YES, NO, thing), (thing, A, YES, NO)]
                    if not isinstance(thing, bool):
                        wrong.append(("end", thing))
                    if thing != "end":
                        wrong.append((thing, True))
                    if thing == "ask":
                        wrong.remove(("ask", A, YES, NO))
                    for plan in wrong:
                        self.assertIs(is_plan(frame, nothing(frame), plan), False)
                        self.assertIs(lets_by(frame, ("many", 0), nothing(frame), plan), False)

    def test_nested_thirty_deep(self):
        ties = RING_OF_SEVEN[1]
        for steps in (8, 29, 30):
            deep = nested(YES, lambda plan: ("ask", ties[0], plan, NO), steps)
            self.no(RING_OF_SEVEN, (None,) * 7, deep, ("ask", ties[1], YES, deep))
        with at_once():
            plan = YES
            for step in range(30):
                plan = ("ask", ties[step % 7], plan, plan)
                for wrong in (plan, doubled(plan), doubled(plan, 30, lambda inner: ("ask", ties[6], inner, inner))):
                    told = is_plan(RING_OF_SEVEN, (None,) * 7, wrong)
                    self.assertIs(told, wrong is plan and step < 7)
                    self.assertIs(lets_by(RING_OF_SEVEN, ("many", 0), (None,) * 7, wrong), told)


class Followed(unittest.TestCase):
    def test_by_hand(self):
        self.assertEqual(followed(YES, ()), (True, []))
        self.assertEqual(followed(NO, (A, B)), (False, []))
        self.assertEqual(followed(JOINED, ()), (False, [A, B]))
        self.assertEqual(followed(JOINED, (A, C)), (True, [A, B, C]))
        self.assertEqual(followed(JOINED, (B, C)), (True, [A, B, C]))
        self.assertEqual(followed(JOINED, (A, B, C)), (True, [A, B]))
        self.assertEqual(followed(BY_UNLIKE_WAYS, (A, C)), (False, [C]))
        self.assertEqual(followed(BY_UNLIKE_WAYS, (A,)), (True, [C, A]))
        self.assertEqual(followed(BY_UNLIKE_WAYS, (B,)), (False, [C, A, B]))
        self.assertEqual(followed(BY_UNLIKE_WAYS, ()), (True, [C, A, B]))

    def test_kinds(self):
        told = followed(JOINED, (A,))
        self.assertIs(type(told), tuple)
        self.assertIs(type(told[0]), bool)
        self.assertIs(type(told[1]), list)
        self.assertTrue(plain(told))

    def test_all_ties_asked(self):
        for frame in FRAMES:
            plan = full_plan(frame, ("odd",), nothing(frame))
            for web in all_webs(frame):
                self.assertEqual(followed(plan, web), (len(web) % 2 == 1, list(frame[1])))

    def test_a_tie_asked_twice(self):
        plan = ("ask", A, ("ask", A, YES, NO), ("ask", A, NO, YES))
        self.assertEqual(followed(plan, (A,)), (True, [A, A]))
        self.assertEqual(followed(plan, ()), (True, [A, A]))

    def test_the_list_is_the_askers_own(self):
        for plan in (YES, JOINED):
            kept = followed(plan, ())
            told = followed(plan, ())
            told[1].append("more")
            told[1].reverse()
            by_hand = [] if plan is YES else [A, B]
            self.assertEqual(kept[1], by_hand)
            self.assertEqual(followed(plan, ())[1], by_hand)
        self.assertEqual(worst(JOINED), 3)


class WorstAndEnds(unittest.TestCase):
    def told(self, plan, asks, count):
        self.assertEqual(worst(plan), asks)
        self.assertEqual(ends(plan), count)
        self.assertIs(type(worst(plan)), int)
        self.assertIs(type(ends(plan)), int)

    def test_by_hand(self):
        self.told(YES, 0, 1)
        self.told(NO, 0, 1)
        self.told(("ask", A, YES, NO), 1, 2)
        self.told(("ask", A, YES, YES), 1, 2)
        self.told(JOINED, 3, 6)
        self.told(BY_UNLIKE_WAYS, 3, 4)
        self.told(JOINED_WITH_B_GONE, 2, 3)
        self.told(("ask", A, ("ask", B, ("ask", C, YES, NO), NO), YES), 3, 4)
        self.told(("ask", A, YES, ("ask", B, NO, ("ask", C, YES, NO))), 3, 4)

    def test_all_ties_asked(self):
        for frame in FRAMES:
            count = len(frame[1])
            self.told(full_plan(frame, ("odd",), nothing(frame)), count, 2 ** count)

    def test_by_following_each_web(self):
        chance = random.Random(120)
        for frame in FRAMES:
            for _ in range(12):
                plan = some_plan(list(frame[1]), chance)
                ways = {tuple((tie, tie in web) for tie in followed(plan, web)[1]) for web in all_webs(frame)}
                self.told(plan, max(len(way) for way in ways), len(ways))


class Fault(unittest.TestCase):
    def test_let_by(self):
        self.assertIsNone(fault(ALL_THREE, ("joined",), NOTHING, JOINED))
        self.assertIsNone(fault(ALL_THREE, ("joined",), WITH_B_GONE, JOINED_WITH_B_GONE))
        self.assertIsNone(fault(ALL_THREE, ("many", 0), NOTHING, YES))
        self.assertIsNone(fault(ALL_THREE, ("many", 4), NOTHING, NO))
        self.assertIsNone(fault(ONE_PLACE, ("joined",), (), YES))

    def test_by_hand(self):
        self.assertEqual(fault(ALL_THREE, ("joined",), NOTHING, YES), ())
        self.assertEqual(fault(ALL_THREE, ("joined",), NOTHING, NO), (A, B))
        self.assertEqual(fault(ALL_THREE, ("ring",), NOTHING, JOINED), (A, B))
        self.assertEqual(fault(ALL_THREE, ("ring",), NOTHING, NO), (A, B, C))
        self.assertEqual(fault(ALL_THREE, ("joined",), NOTHING, ("ask", A, YES, NO)), (A,))
        self.assertEqual(fault(ALL_THREE, ("joined",), NOTHING, ("ask", C, YES, NO)), (A, B))
        self.assertEqual(fault(ONE_PLACE, ("joined",), (), NO), ())

    def test_from_something_known(self):
        self.assertEqual(fault(ALL_THREE, ("joined",), WITH_B_GONE, YES), ())
        self.assertEqual(fault(ALL_THREE, ("joined",), WITH_B_GONE, NO), (A, C))
        self.assertEqual(fault(ALL_THREE, ("joined",), (None, True, None), YES), (B,))
        self.assertEqual(fault(ALL_THREE, ("joined",), (None, True, None), NO), (A, B))
        self.assertEqual(fault(ALL_THREE, ("joined",), (None, True, None), JOINED_WITH_B_GONE), (A, B))
        self.assertIsNone(fault(ALL_THREE, ("joined",), (True, True, None), YES))
        self.assertEqual(fault(ALL_THREE, ("joined",), (True, True, None), NO), (A, B))
        self.assertEqual(fault(ALL_THREE, ("joined",), (True, True, True), NO), (A, B, C))
        self.assertIsNone(fault(ALL_THREE, ("joined",), (True, True, True), YES))

    def test_one_end_wrong(self):
        chance = random.Random(13)
        for frame in (ONE_TIE, ALL_THREE, ALL_FOUR, RING_OF_SEVEN):
            for wish in (("joined",), ("odd",), some_wish(frame, chance, 2)):
                known = tuple(chance.choice((None, None, None, True, False)) for _ in frame[1])
                for start in (nothing(frame), known):
                    plan = full_plan(frame, wish, start)
                    self.assertIsNone(fault(frame, wish, start, plan))
                    for web in fitting_by_hand(frame, start):
                        wrong = with_end_changed(plan, web)
                        self.assertEqual(fault(frame, wish, start, wrong), web)
                        self.assertIs(lets_by(frame, wish, start, wrong), False)

    def test_some_plans(self):
        chance = random.Random(130)
        for frame in FRAMES:
            for _ in range(12):
                known = tuple(chance.choice((None, None, True, False)) for _ in frame[1])
                free = [tie for tie, truth in zip(frame[1], known) if truth is None]
                plan = some_plan(free, chance)
                wish = chance.choice(simple_wishes(frame, chance))
                by_hand = fault_by_hand(frame, wish, known, plan)
                self.assertEqual(fault(frame, wish, known, plan), by_hand)
                self.assertIs(lets_by(frame, wish, known, plan), by_hand is None)


class LetsBy(unittest.TestCase):
    def test_by_hand(self):
        self.assertIs(lets_by(ALL_THREE, ("joined",), NOTHING, JOINED), True)
        self.assertIs(lets_by(ALL_THREE, ("many", 2), NOTHING, JOINED), True)
        self.assertIs(lets_by(ALL_THREE, ("ring",), NOTHING, JOINED), False)
        self.assertIs(lets_by(ALL_THREE, ("joined",), WITH_B_GONE, JOINED_WITH_B_GONE), True)
        self.assertIs(lets_by(ALL_THREE, ("joined",), NOTHING, JOINED_WITH_B_GONE), False)
        self.assertIs(lets_by(ALL_THREE, ("joined",), (None, True, None), JOINED_WITH_B_GONE), False)
        self.assertIs(lets_by(ONE_PLACE, ("joined",), (), YES), True)
        self.assertIs(lets_by(ONE_PLACE, ("joined",), (), NO), False)

    def test_right_ends_but_no_plan_from_there(self):
        self.assertIs(lets_by(ALL_THREE, ("joined",), WITH_B_GONE, JOINED), False)
        self.assertIs(lets_by(ALL_THREE, ("many", 0), (True, None, None), ("ask", A, YES, YES)), False)
        self.assertIs(lets_by(ALL_THREE, ("many", 0), NOTHING, ("ask", A, ("ask", A, YES, NO), YES)), False)
        self.assertIs(lets_by(ALL_THREE, ("many", 0), NOTHING, ("ask", (1, 0), YES, YES)), False)
        self.assertIs(lets_by(ALL_THREE, ("many", 0), NOTHING, ("ask", (0, True), YES, YES)), False)
        self.assertIs(lets_by(ALL_THREE, ("many", 0), NOTHING, ("end", 1)), False)
        self.assertIs(lets_by(ALL_THREE, ("many", 99), NOTHING, ("end", 0)), False)
        self.assertIs(lets_by(ALL_THREE, ("many", 99), NOTHING, ("end", None)), False)
        self.assertIs(lets_by(ALL_THREE, ("many", 0), NOTHING, ["end", True]), False)

    def test_whatever_it_is(self):
        for thing in [None, True, 0, "", "end", (), [], {}, ("end",), ("ask",), ("ask", A), ("ask", A, None, None)]:
            self.assertIs(lets_by(ALL_THREE, ("joined",), NOTHING, thing), False)
            self.assertIs(lets_by(ONE_PLACE, ("joined",), (), thing), False)

    def test_all_plans(self):
        frame = ALL_THREE
        plans = all_plans(frame[1])
        for wish, known in [(("joined",), NOTHING), (("tie", 0, 2), NOTHING), (("odd",), (None, True, None))]:
            right = set(all_plans([A, B, C] if known == NOTHING else [A, C]))
            for plan in plans:
                by_hand = plan in right and fault_by_hand(frame, wish, known, plan) is None
                if lets_by(frame, wish, known, plan) is not by_hand:
                    self.fail((wish, known, plan))

    def test_many_parts_at_once(self):
        wish = nested(("sides",), lambda inner: ("one", inner, ("sides",)), 11)
        plan = NO
        for tie in RING_OF_SEVEN[1]:
            plan = ("ask", tie, plan, plan)
        with at_once():
            self.assertIs(lets_by(RING_OF_SEVEN, wish, (None,) * 7, plan), True)


class PlansAreKept(unittest.TestCase):
    def test_lists_handed_in_stay(self):
        inner = ["end", True]
        thing = ("ask", A, inner, ("end", [False]))
        self.assertIs(is_plan(ALL_THREE, NOTHING, thing), False)
        self.assertIs(lets_by(ALL_THREE, ("joined",), NOTHING, thing), False)
        self.assertEqual(thing, ("ask", A, ["end", True], ("end", [False])))

    def test_the_same_at_each_asking(self):
        for _ in range(3):
            self.assertIs(is_plan(ALL_THREE, NOTHING, ("end", True)), True)
            self.assertIs(is_plan(ALL_THREE, NOTHING, ("end", 1)), False)
            self.assertIs(is_plan(ONE_TIE, (None,), ("ask", (0, 1), YES, NO)), True)
            self.assertIs(is_plan(ONE_TIE, (None,), ("ask", (False, True), YES, NO)), False)
            self.assertEqual(fault(ALL_THREE, ("ring",), NOTHING, JOINED), (A, B))
            self.assertIs(lets_by(ALL_THREE, ("joined",), NOTHING, JOINED), True)


if __name__ == "__main__":
    unittest.main()
