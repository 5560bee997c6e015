"""Point 15: the least; and what point 3 says of it."""

import itertools
import random
import unittest
from unittest import mock

from allasked.counts import spared
from allasked.least import best_asks, least, plan_for
from allasked.plans import fault, lets_by, worst
from allasked.turns import turned_known, turned_tie, turned_wish
from tests.samples import ALL_FOUR, ALL_THREE, FRAMES, NO_TIES, ONE_PLACE, ONE_TIE, RING_OF_SEVEN, ROW_OF_EIGHT
from tests.samples import STAR_OF_EIGHT, all_known, all_plans, all_webs, at_once, fitting_by_hand, kinds_of
from tests.samples import least_by_hand, least_of_truths, nested, nothing, plain, simple_wishes, some_known, some_wish
from tests.samples import truths_by_hand, turns_by_hand, with_tie

A, B, C = ALL_THREE[1]
SQUARE = (4, ((0, 1), (0, 3), (1, 2), (2, 3)))
KITE = (4, ((0, 1), (0, 2), (1, 2), (2, 3)))
SEVENS = [frame for frame in FRAMES if len(frame[1]) == 7]
HEAVY = nested(("ring",), lambda inner: ("one", inner, ("sides",)), 11)


def end_of(plan, web):
    while plan[0] == "ask":
        plan = plan[2] if plan[1] in web else plan[3]
    return plan[1]


def asks(plan):
    return 0 if plan[0] == "end" else 1 + max(asks(plan[2]), asks(plan[3]))


def leasts_over_all_plans(ties, webs):
    """For each tuple of truths of these webs that some plan tells, the least worst of such plans."""
    found = {}
    for plan in all_plans(ties):
        truths = tuple(end_of(plan, web) for web in webs)
        found[truths] = min(asks(plan), found.get(truths, 99))
    return found


def best_by_hand(frame, wish, known):
    """The ties that reach the least, in order."""
    found = least_by_hand(frame, wish, known)
    best = []
    for tie, truth in zip(frame[1], known):
        if truth is None and found > 0:
            more = [least_by_hand(frame, wish, with_tie(frame, known, tie, answer)) for answer in (True, False)]
            if 1 + max(more) == found:
                best.append(tie)
    return best


class Least(unittest.TestCase):
    def told(self, frame, wish, known, right):
        told = least(frame, wish, known)
        self.assertEqual(told, right, (frame, wish, known))
        self.assertIs(type(told), int)

    def test_settled(self):
        for frame in FRAMES:
            for known in [nothing(frame), (True,) * len(frame[1]), (False,) * len(frame[1])]:
                for wish in [("many", 0), ("many", 99), ("not", ("many", 0)), ("one", ("ring",), ("ring",))]:
                    self.told(frame, wish, known, 0)
                self.told(frame, ("told", (True,) * 2 ** len(frame[1])), known, 0)
                self.told(frame, ("told", (False,) * 2 ** len(frame[1])), known, 0)
            for wish in [("odd",), ("joined",), ("hub",)]:
                self.told(frame, wish, (True,) * len(frame[1]), 0)
                self.told(frame, wish, (False,) * len(frame[1]), 0)

    def test_all_ties_are_needed(self):
        for frame in FRAMES:
            self.told(frame, ("odd",), nothing(frame), len(frame[1]))
            for known in some_known(frame, random.Random(15), 5):
                self.told(frame, ("odd",), known, known.count(None))
        self.told(ROW_OF_EIGHT, ("joined",), nothing(ROW_OF_EIGHT), 7)
        self.told(STAR_OF_EIGHT, ("hub",), nothing(STAR_OF_EIGHT), 7)
        self.told(ALL_FOUR, ("joined",), nothing(ALL_FOUR), 6)

    def test_by_hand(self):
        self.told(ALL_THREE, ("joined",), (None, None, None), 3)
        self.told(ALL_THREE, ("tie", 0, 2), (None, None, None), 1)
        self.told(ALL_THREE, ("tie", 0, 2), (True, None, False), 1)
        self.told(ALL_THREE, ("tie", 0, 2), (None, True, None), 0)
        self.told(ALL_THREE, ("joined",), (True, None, None), 2)
        self.told(ALL_THREE, ("joined",), (True, True, None), 0)
        self.told(ALL_THREE, ("joined",), (True, False, None), 1)
        self.told(KITE, ("ring",), (None,) * 4, 3)
        self.told(KITE, ("both", ("tie", 2, 3), ("tie", 0, 1)), (None,) * 4, 2)
        self.told(STAR_OF_EIGHT, ("ends", 3, 1), (None,) * 7, 1)
        self.told(ONE_TIE, ("tie", 0, 1), (None,), 1)

    def test_without_ties(self):
        for frame in (ONE_PLACE, (2, ()), NO_TIES, (8, ())):
            for wish in (("joined",), ("lone",), ("odd",), ("told", (True,)), ("told", (False,))):
                self.told(frame, wish, (), 0)
                self.assertEqual(best_asks(frame, wish, ()), [])

    def test_a_choice_by_the_first_tie(self):
        # Where A is there B is asked, else C: two asks, though all three count.
        chosen = ("either", ("both", ("tie", 0, 1), ("tie", 0, 2)), ("both", ("not", ("tie", 0, 1)), ("tie", 1, 2)))
        self.told(ALL_THREE, chosen, (None, None, None), 2)
        self.assertEqual(best_asks(ALL_THREE, chosen, (None, None, None)), [A])
        self.assertEqual(plan_for(ALL_THREE, chosen, (None, None, None))[1], A)

    def test_all_plans_of_three_ties_for_each_table(self):
        for known in all_known(ALL_THREE):
            free = [tie for tie, truth in zip(ALL_THREE[1], known) if truth is None]
            webs = fitting_by_hand(ALL_THREE, known)
            leasts = leasts_over_all_plans(free, webs)
            at = [all_webs(ALL_THREE).index(web) for web in webs]
            for table in itertools.product((True, False), repeat=8):
                right = leasts[tuple(table[number] for number in at)]
                self.assertEqual(least(ALL_THREE, ("told", table), known), right, (table, known))

    def test_all_that_may_be_known(self):
        chance = random.Random(150)
        for frame in [frame for frame in FRAMES if len(frame[1]) <= 5]:
            for wish in chance.sample(simple_wishes(frame, chance), 4) + [some_wish(frame, chance, 3) for _ in range(2)]:
                for known in all_known(frame):
                    self.told(frame, wish, known, least_by_hand(frame, wish, known))

    def test_six_and_seven_ties(self):
        chance = random.Random(151)
        for frame in [frame for frame in FRAMES if len(frame[1]) >= 6]:
            for wish in chance.sample(simple_wishes(frame, chance), 6) + [some_wish(frame, chance, 3) for _ in range(3)]:
                self.told(frame, wish, nothing(frame), least_of_truths(truths_by_hand(frame, wish)))
                for known in some_known(frame, chance, 4):
                    self.told(frame, wish, known, least_by_hand(frame, wish, known))


class BestAsks(unittest.TestCase):
    def test_by_hand(self):
        self.assertEqual(best_asks(ALL_THREE, ("tie", 0, 2), (None, None, None)), [B])
        self.assertEqual(best_asks(ALL_THREE, ("tie", 0, 2), (None, True, None)), [])
        self.assertEqual(best_asks(ALL_THREE, ("joined",), (None, None, None)), [A, B, C])
        self.assertEqual(best_asks(ALL_THREE, ("joined",), (None, False, None)), [A, C])
        self.assertEqual(best_asks(ALL_THREE, ("joined",), (True, True, None)), [])
        self.assertEqual(best_asks(KITE, ("ring",), (None,) * 4), [(0, 1), (0, 2), (1, 2)])
        self.assertEqual(best_asks(ONE_TIE, ("odd",), (None,)), [(0, 1)])
        self.assertEqual(best_asks(ONE_TIE, ("odd",), (True,)), [])

    def test_a_wish_of_all_or_none(self):
        for frame in FRAMES:
            self.assertEqual(best_asks(frame, ("many", 0), nothing(frame)), [])
            self.assertEqual(best_asks(frame, ("many", 99), nothing(frame)), [])

    def test_these_and_no_others(self):
        chance = random.Random(152)
        for frame in FRAMES:
            count = 1 if len(frame[1]) > 6 else 3
            wishes = chance.sample(simple_wishes(frame, chance), count) + [some_wish(frame, chance, 3) for _ in range(count)]
            for wish in wishes:
                for known in [nothing(frame)] + some_known(frame, chance, 5):
                    told = best_asks(frame, wish, known)
                    self.assertEqual(told, best_by_hand(frame, wish, known), (frame, wish, known))
                    self.assertEqual(told, sorted(set(told)))
                    self.assertIs(type(told), list)
                    self.assertTrue(plain(told))

    def test_the_list_is_the_askers_own(self):
        for wish in (("joined",), ("tie", 0, 1), ("many", 0)):
            kept = best_asks(ALL_THREE, wish, (None, None, None))
            told = best_asks(ALL_THREE, wish, (None, None, None))
            before = list(kept)
            told.append("more")
            told.reverse()
            self.assertEqual(kept, before)
            self.assertEqual(best_asks(ALL_THREE, wish, (None, None, None)), before)
            self.assertEqual(least(ALL_THREE, wish, (None, None, None)), {"joined": 3, "tie": 1, "many": 0}[wish[0]])


class PlanFor(unittest.TestCase):
    def told(self, frame, wish, known):
        plan = plan_for(frame, wish, known)
        self.assertIs(lets_by(frame, wish, known, plan), True, (frame, wish, known))
        self.assertIsNone(fault(frame, wish, known, plan))
        self.assertEqual(worst(plan), least_by_hand(frame, wish, known), (frame, wish, known))
        self.assertEqual(asks(plan), least(frame, wish, known))
        self.assertTrue(plain(plan))

    def test_settled(self):
        for frame in FRAMES:
            self.assertEqual(kinds_of(plan_for(frame, ("many", 0), nothing(frame))), kinds_of(("end", True)))
            self.assertEqual(kinds_of(plan_for(frame, ("many", 99), nothing(frame))), kinds_of(("end", False)))
        self.assertEqual(plan_for(ALL_THREE, ("joined",), (True, None, True)), ("end", True))
        self.assertEqual(plan_for(ALL_THREE, ("joined",), (False, None, False)), ("end", False))
        self.assertEqual(plan_for(ONE_PLACE, ("joined",), ()), ("end", True))

    def test_one_ask(self):
        self.assertEqual(plan_for(ALL_THREE, ("tie", 0, 2), (None,) * 3), ("ask", B, ("end", True), ("end", False)))
        self.assertEqual(plan_for(ONE_TIE, ("lone",), (None,)), ("ask", (0, 1), ("end", False), ("end", True)))

    def test_let_by_with_the_least_as_its_worst(self):
        chance = random.Random(153)
        for frame in FRAMES:
            for wish in chance.sample(simple_wishes(frame, chance), 4) + [some_wish(frame, chance, 3) for _ in range(3)]:
                for known in [nothing(frame)] + some_known(frame, chance, 4):
                    self.told(frame, wish, known)

    def test_each_web_is_told_right(self):
        for frame in SEVENS:
            for wish in (("joined",), ("sides",), ("lone",)):
                plan = plan_for(frame, wish, nothing(frame))
                self.assertEqual(tuple(end_of(plan, web) for web in all_webs(frame)), truths_by_hand(frame, wish))


class GoodTime(unittest.TestCase):
    def test_seven_ties(self):
        for frame in SEVENS:
            for wish in (HEAVY, ("odd",), ("told", (True, False) * 64)):
                with at_once(5):
                    least(frame, wish, nothing(frame))
                    best_asks(frame, wish, nothing(frame))
                    plan_for(frame, wish, nothing(frame))

    def test_the_table_is_reckoned_once(self):
        for asked in (least, best_asks, plan_for):
            with mock.patch("allasked.least.table_of", side_effect=truths_by_hand) as table:
                asked(RING_OF_SEVEN, ("joined",), (None,) * 7)
            self.assertEqual(table.call_count, 1)


class TheWhole(unittest.TestCase):
    """What point 3 says of the least."""

    def cases(self, chance, count):
        for frame in FRAMES:
            for _ in range(count):
                wish = chance.choice(simple_wishes(frame, chance) + [some_wish(frame, chance, 3)] * 12)
                yield frame, wish, chance.choice([nothing(frame)] + some_known(frame, chance, 1))

    def test_a_wish_and_its_opposite_and_of_the_missing_web(self):
        for frame, wish, known in self.cases(random.Random(31), 6):
            found = least(frame, wish, known)
            self.assertEqual(least(frame, ("not", wish), known), found)
            other = tuple(None if truth is None else not truth for truth in known)
            self.assertEqual(least(frame, ("missing", wish), other), found)
            self.assertEqual(least(frame, ("missing", wish), nothing(frame)), least(frame, wish, nothing(frame)))

    def test_a_wish_turned(self):
        chance = random.Random(32)
        for frame, wish, known in self.cases(chance, 4):
            order = chance.choice(turns_by_hand(frame))
            turned = turned_wish(frame, order, wish)
            self.assertEqual(least(frame, turned, nothing(frame)), least(frame, wish, nothing(frame)))
            there = turned_known(frame, order, known)
            self.assertEqual(least(frame, turned, there), least(frame, wish, known))
            best = sorted(turned_tie(order, tie) for tie in best_asks(frame, wish, known))
            self.assertEqual(best_asks(frame, turned, there), best)

    def test_one_tie_more_known(self):
        for frame, wish, known in self.cases(random.Random(33), 4):
            found = least(frame, wish, known)
            for tie in [tie for tie, truth in zip(frame[1], known) if truth is None]:
                more = [least(frame, wish, with_tie(frame, known, tie, truth)) for truth in (True, False)]
                self.assertLessEqual(max(more), found)
                self.assertGreaterEqual(max(more), found - 1)

    def test_in_whatever_order_the_ties_came_to_be_known(self):
        for order in itertools.permutations(((A, True), (B, False), (C, True))):
            known = (None, None, None)
            for tie, truth in order:
                known = with_tie(ALL_THREE, known, tie, truth)
            self.assertEqual(least(ALL_THREE, ("joined",), known), 0)

    def test_no_less_than_the_ties_less_what_is_spared(self):
        for frame, wish, _ in self.cases(random.Random(34), 6):
            self.assertGreaterEqual(least(frame, wish, nothing(frame)), len(frame[1]) - spared(frame, wish))

    def test_two_wishes_put_together(self):
        chance = random.Random(35)
        for frame, wish, known in self.cases(chance, 3):
            other = some_wish(frame, chance, 2)
            together = least(frame, wish, known) + least(frame, other, known)
            for word in ("both", "either", "one"):
                self.assertLessEqual(least(frame, (word, wish, other), known), together)

    def test_two_wishes_of_other_ties_put_together(self):
        two = (6, ((0, 1), (0, 2), (1, 2), (3, 4), (3, 5), (4, 5)))
        one, other = ("both", ("way", 0, 1), ("way", 0, 2)), ("both", ("way", 3, 4), ("way", 3, 5))
        self.assertEqual(least(two, one, nothing(two)), 3)
        for word in ("both", "either", "one"):
            self.assertEqual(least(two, (word, one, other), nothing(two)), 6)
            self.assertEqual(least(two, (word, one, ("tie", 3, 5)), nothing(two)), 4)

    def test_places_named_anew(self):
        chance = random.Random(36)
        for frame in FRAMES:
            names = chance.sample(range(frame[0]), frame[0])
            ties = tuple(sorted(tuple(sorted((names[a], names[b]))) for a, b in frame[1]))
            for wish in (("joined",), ("ring",), ("hub",), ("many", 2), ("lone",), ("sides",), ("three",)):
                anew = least((frame[0], ties), wish, nothing(frame))
                self.assertEqual(anew, least(frame, wish, nothing(frame)))


if __name__ == "__main__":
    unittest.main()
