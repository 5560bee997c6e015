"""Point 14: plans are changed; and what point 3 says of two wishes put together."""

import random
import unittest

from allasked.changed import cut, missing_plan, opposite, put_together, turned_plan
from allasked.least import least, plan_for
from allasked.plans import is_plan, lets_by, worst
from tests.samples import ALL_FOUR, ALL_THREE, FRAMES, NO_TIES, ONE_PLACE, ONE_TIE, RING_OF_SEVEN, ROW_OF_EIGHT
from tests.samples import STAR_OF_EIGHT, all_known, all_plans, all_webs, at_once, end_by_hand, fitting_by_hand, full_plan
from tests.samples import has_by_hand, kinds_of, least_by_hand, least_of_truths, nothing, simple_wishes, some_known
from tests.samples import some_plan, some_wish, truths_by_hand, turned_by_hand, turns_by_hand

YES = ("end", True)
NO = ("end", False)
A, B, C = ALL_THREE[1]
NOTHING = (None, None, None)
JOINED = ("ask", A, ("ask", B, YES, ("ask", C, YES, NO)), ("ask", B, ("ask", C, YES, NO), NO))
BY_UNLIKE_WAYS = ("ask", C, NO, ("ask", A, YES, ("ask", B, NO, YES)))
WORDS = ("both", "either", "one")
TRUTH_BY_WORD = {"both": lambda a, b: a and b, "either": lambda a, b: a or b, "one": lambda a, b: a is not b}


def asked_by_hand(plan, web):
    """The ties that are asked of a web, in order."""
    if plan[0] == "end":
        return []
    return [plan[1]] + asked_by_hand(plan[2 if plan[1] in web else 3], web)


def way(plan, web):
    """What a plan tells of a web and what it asks of it."""
    return (end_by_hand(plan, web), asked_by_hand(plan, web))


def plans_of(frame, chance, count):
    """Plans from nothing known: the two ends, one that asks all, and some by chance."""
    return [YES, NO, full_plan(frame, ("odd",), nothing(frame))] + [some_plan(frame[1], chance) for _ in range(count)]


def turned_back(order):
    """The order that turns back what an order turns."""
    return tuple(order.index(place) for place in range(len(order)))


class Cut(unittest.TestCase):
    def cuts(self, frame, plan, known):
        """The plan cut is one from there, and does with each web that fits what the plan does."""
        before = kinds_of(plan)
        made = cut(frame, plan, known)
        self.assertIs(is_plan(frame, known, made), True, (frame, plan, known))
        free = [tie for tie, truth in zip(frame[1], known) if truth is None]
        for web in fitting_by_hand(frame, known):
            truth, asked = way(plan, web)
            self.assertEqual(way(made, web), (truth, [tie for tie in asked if tie in free]), (frame, plan, known))
        self.assertEqual(kinds_of(plan), before)
        return made

    def test_by_hand(self):
        self.assertEqual(cut(ALL_THREE, JOINED, (None, False, None)), ("ask", A, ("ask", C, YES, NO), NO))
        self.assertEqual(cut(ALL_THREE, JOINED, (None, True, None)), ("ask", A, YES, ("ask", C, YES, NO)))
        self.assertEqual(cut(ALL_THREE, JOINED, (True, None, None)), ("ask", B, YES, ("ask", C, YES, NO)))
        self.assertEqual(cut(ALL_THREE, JOINED, (False, None, None)), ("ask", B, ("ask", C, YES, NO), NO))
        self.assertEqual(cut(ALL_THREE, JOINED, (None, None, True)), ("ask", A, ("ask", B, YES, YES), ("ask", B, YES, NO)))
        self.assertEqual(cut(ALL_THREE, JOINED, (True, False, None)), ("ask", C, YES, NO))
        self.assertEqual(cut(ALL_THREE, JOINED, (True, True, None)), YES)
        self.assertEqual(cut(ALL_THREE, BY_UNLIKE_WAYS, (None, None, True)), NO)
        self.assertEqual(cut(ALL_THREE, BY_UNLIKE_WAYS, (False, None, None)), ("ask", C, NO, ("ask", B, NO, YES)))

    def test_by_nothing_known(self):
        chance = random.Random(14)
        for frame in FRAMES:
            for plan in plans_of(frame, chance, 5):
                self.assertEqual(kinds_of(cut(frame, plan, nothing(frame))), kinds_of(plan))

    def test_by_all_known(self):
        chance = random.Random(141)
        for frame in FRAMES:
            for plan in plans_of(frame, chance, 5):
                for web in chance.sample(all_webs(frame), min(8, len(all_webs(frame)))):
                    known = tuple(tie in web for tie in frame[1])
                    self.assertEqual(kinds_of(cut(frame, plan, known)), kinds_of(("end", end_by_hand(plan, web))))

    def test_by_all_that_may_be_known(self):
        chance = random.Random(142)
        for known in all_known(ALL_THREE):
            for plan in [JOINED, BY_UNLIKE_WAYS] + chance.sample(all_plans(ALL_THREE[1]), 60):
                self.cuts(ALL_THREE, plan, known)

    def test_by_something_known(self):
        chance = random.Random(143)
        for frame in FRAMES:
            for plan in plans_of(frame, chance, 4):
                for known in some_known(frame, chance, 4):
                    self.cuts(frame, plan, known)

    def test_a_plan_that_is_let_by_is_so_from_there(self):
        chance = random.Random(144)
        for frame in FRAMES:
            wish = some_wish(frame, chance, 2)
            plan = plan_for(frame, wish, nothing(frame))
            for known in some_known(frame, chance, 4):
                self.assertIs(lets_by(frame, wish, known, self.cuts(frame, plan, known)), True)


class OppositeMissingTurned(unittest.TestCase):
    def test_by_hand(self):
        self.assertEqual(opposite(YES), NO)
        self.assertEqual(opposite(("ask", A, YES, ("ask", B, NO, NO))), ("ask", A, NO, ("ask", B, YES, YES)))
        self.assertEqual(missing_plan(NO), NO)
        self.assertEqual(missing_plan(("ask", A, YES, ("ask", B, NO, YES))), ("ask", A, ("ask", B, YES, NO), YES))
        self.assertEqual(turned_plan((1, 2, 0), YES), YES)
        self.assertEqual(turned_plan((1, 2, 0), ("ask", A, YES, ("ask", C, NO, YES))),
                         ("ask", C, YES, ("ask", B, NO, YES)))

    def test_kinds(self):
        for plan in (YES, NO):
            self.assertEqual(kinds_of(opposite(plan)), kinds_of(("end", not plan[1])))
            self.assertEqual(kinds_of(missing_plan(plan)), kinds_of(plan))
            self.assertEqual(kinds_of(turned_plan((0,), plan)), kinds_of(plan))

    def test_of_each_web(self):
        chance = random.Random(145)
        for frame in FRAMES:
            order = chance.choice(turns_by_hand(frame))
            for plan in plans_of(frame, chance, 4):
                before = kinds_of(plan)
                others, missing, turned = opposite(plan), missing_plan(plan), turned_plan(order, plan)
                for made in (others, missing, turned):
                    self.assertIs(is_plan(frame, nothing(frame), made), True)
                for web in all_webs(frame):
                    truth, asked = way(plan, web)
                    gone = tuple(tie for tie in frame[1] if tie not in web)
                    self.assertEqual(way(others, web), (not truth, asked))
                    self.assertEqual(way(missing, gone), (truth, asked))
                    by_order = [turned_by_hand(order, (tie,))[0] for tie in asked]
                    self.assertEqual(way(turned, turned_by_hand(order, web)), (truth, by_order))
                self.assertEqual(kinds_of(plan), before)

    def test_done_twice_or_turned_back(self):
        chance = random.Random(146)
        for frame in FRAMES:
            for plan in plans_of(frame, chance, 4):
                self.assertEqual(kinds_of(opposite(opposite(plan))), kinds_of(plan))
                self.assertEqual(kinds_of(missing_plan(missing_plan(plan))), kinds_of(plan))
                for order in chance.sample(turns_by_hand(frame), min(4, len(turns_by_hand(frame)))):
                    turned = turned_plan(order, plan)
                    self.assertEqual(kinds_of(turned_plan(turned_back(order), turned)), kinds_of(plan))

    def test_let_by_for_the_changed_wish(self):
        chance = random.Random(147)
        for frame in FRAMES:
            wish = some_wish(frame, chance, 2)
            plan = plan_for(frame, wish, nothing(frame))
            self.assertIs(lets_by(frame, ("not", wish), nothing(frame), opposite(plan)), True)
            self.assertIs(lets_by(frame, ("missing", wish), nothing(frame), missing_plan(plan)), True)

    def test_a_plan_from_something_known(self):
        plan = ("ask", A, ("ask", C, YES, NO), NO)
        self.assertIs(lets_by(ALL_THREE, ("joined",), (None, False, None), plan), True)
        self.assertEqual(opposite(plan), ("ask", A, ("ask", C, NO, YES), YES))
        self.assertEqual(missing_plan(plan), ("ask", A, NO, ("ask", C, NO, YES)))
        self.assertEqual(turned_plan((0, 2, 1), plan), ("ask", B, ("ask", C, YES, NO), NO))


class PutTogether(unittest.TestCase):
    def put(self, frame, word, one, other):
        """The plans put together do with each web what they must."""
        before = kinds_of((one, other))
        made = put_together(frame, word, one, other)
        self.assertIs(is_plan(frame, nothing(frame), made), True, (frame, word, one, other))
        for web in all_webs(frame):
            truth, asked = way(one, web)
            if truth is not {"both": False, "either": True, "one": None}[word]:
                more, further = way(other, web)
                truth = TRUTH_BY_WORD[word](truth, more)
                asked = asked + [tie for tie in further if tie not in asked]
            if way(made, web) != (truth, asked):
                self.fail((frame, word, one, other, web))
        self.assertLessEqual(worst(made), worst(one) + worst(other))
        self.assertEqual(kinds_of((one, other)), before)
        return made

    def test_by_hand(self):
        one, other = ("ask", A, YES, NO), ("ask", B, YES, NO)
        self.assertEqual(put_together(ALL_THREE, "both", one, other), ("ask", A, other, NO))
        self.assertEqual(put_together(ALL_THREE, "either", one, other), ("ask", A, YES, other))
        self.assertEqual(put_together(ALL_THREE, "one", one, other), ("ask", A, ("ask", B, NO, YES), other))

    def test_what_the_way_tells(self):
        one = ("ask", A, YES, ("ask", B, NO, YES))
        other = ("ask", B, ("ask", A, NO, YES), ("ask", C, YES, NO))
        self.assertEqual(put_together(ALL_THREE, "both", one, other),
                         ("ask", A, ("ask", B, NO, ("ask", C, YES, NO)), ("ask", B, NO, ("ask", C, YES, NO))))
        self.assertEqual(put_together(ALL_THREE, "either", one, other), ("ask", A, YES, ("ask", B, YES, YES)))
        self.assertEqual(put_together(ALL_THREE, "one", one, other),
                         ("ask", A, ("ask", B, YES, ("ask", C, NO, YES)), ("ask", B, YES, ("ask", C, NO, YES))))

    def test_with_itself(self):
        self.assertEqual(put_together(ALL_THREE, "both", JOINED, JOINED), JOINED)
        self.assertEqual(put_together(ALL_THREE, "either", JOINED, JOINED), JOINED)
        never = put_together(ALL_THREE, "one", JOINED, JOINED)
        self.assertEqual(never, opposite(put_together(ALL_THREE, "either", JOINED, opposite(JOINED))))

    def test_one_end_alone(self):
        for frame in (ONE_PLACE, NO_TIES, ONE_TIE, ALL_THREE, RING_OF_SEVEN):
            for one in (YES, NO):
                for other in (YES, NO):
                    for word in WORDS:
                        truth = TRUTH_BY_WORD[word](one[1], other[1])
                        self.assertEqual(kinds_of(put_together(frame, word, one, other)), kinds_of(("end", truth)))
        for plan in (JOINED, BY_UNLIKE_WAYS):
            self.assertEqual(put_together(ALL_THREE, "both", YES, plan), plan)
            self.assertEqual(put_together(ALL_THREE, "both", NO, plan), NO)
            self.assertEqual(put_together(ALL_THREE, "either", YES, plan), YES)
            self.assertEqual(put_together(ALL_THREE, "either", NO, plan), plan)
            self.assertEqual(put_together(ALL_THREE, "one", YES, plan), opposite(plan))
            self.assertEqual(put_together(ALL_THREE, "one", NO, plan), plan)
            self.assertEqual(put_together(ALL_THREE, "both", plan, YES), plan)
            self.assertEqual(put_together(ALL_THREE, "either", plan, NO), plan)
            self.assertEqual(put_together(ALL_THREE, "one", plan, NO), plan)
            self.assertEqual(put_together(ALL_THREE, "one", plan, YES), opposite(plan))

    def test_all_plans_of_two_ties(self):
        frame = (3, ((0, 1), (1, 2)))
        plans = all_plans(frame[1])
        for word in WORDS:
            for one in plans:
                for other in plans:
                    self.put(frame, word, one, other)

    def test_each_frame(self):
        chance = random.Random(148)
        for frame in FRAMES:
            plans = plans_of(frame, chance, 2)
            for word in WORDS:
                for one in plans:
                    self.put(frame, word, one, chance.choice(plans))

    def test_let_by_for_the_two_wishes(self):
        chance = random.Random(149)
        for frame in FRAMES:
            one, other = some_wish(frame, chance, 2), chance.choice(simple_wishes(frame, chance))
            plans = [(plan_for(frame, wish, nothing(frame)), wish) for wish in (one, other)]
            for word in WORDS:
                for (first, wish), (second, further) in (plans, plans[::-1]):
                    made = self.put(frame, word, first, second)
                    self.assertIs(lets_by(frame, (word, wish, further), nothing(frame), made), True)
                    self.assertLessEqual(worst(made), least_by_hand(frame, one, nothing(frame))
                                         + least_by_hand(frame, other, nothing(frame)))

    def test_seven_ties_in_good_time(self):
        with at_once(10):
            for frame in (RING_OF_SEVEN, ROW_OF_EIGHT, STAR_OF_EIGHT):
                for word in WORDS:
                    one = full_plan(frame, ("odd",), nothing(frame))
                    other = full_plan(frame, ("joined",), nothing(frame), frame[1][::-1])
                    made = put_together(frame, word, one, other)
                    self.assertIs(lets_by(frame, (word, ("odd",), ("joined",)), nothing(frame), made), True)


class TwoWishes(unittest.TestCase):
    """What point 3 says of the leasts of two wishes put together."""

    def test_no_more_than_both_leasts(self):
        chance = random.Random(30)
        for frame in FRAMES:
            for _ in range(3):
                one, other = some_wish(frame, chance, 2), chance.choice(simple_wishes(frame, chance))
                known = chance.choice([nothing(frame)] + some_known(frame, chance, 1))
                most = least(frame, one, known) + least(frame, other, known)
                for word in WORDS:
                    self.assertLessEqual(least(frame, (word, one, other), known), most)

    def wish_of(self, frame, ties, chance):
        """A wish, had by some web and not by all, on which only these ties tell."""
        while True:
            truths = {}
            table = []
            for web in all_webs(frame):
                within = tuple(tie for tie in ties if tie in web)
                table.append(truths.setdefault(within, chance.random() < 0.5))
            if len(set(table)) == 2:
                return ("told", tuple(table))

    def test_just_both_leasts_where_no_tie_tells_on_both(self):
        chance = random.Random(31)
        for frame in [frame for frame in FRAMES if len(frame[1]) >= 2]:
            for _ in range(3):
                ties = chance.sample(frame[1], len(frame[1]))
                split = chance.randrange(1, len(ties))
                one = self.wish_of(frame, ties[:split], chance)
                other = self.wish_of(frame, ties[split:], chance)
                both = least(frame, one, nothing(frame)) + least(frame, other, nothing(frame))
                for word in WORDS:
                    wish = (word, one, other)
                    self.assertEqual(least(frame, wish, nothing(frame)), both)
                    self.assertEqual(least_of_truths(truths_by_hand(frame, wish)), both)

    def test_by_hand(self):
        self.assertEqual(least(ALL_FOUR, ("both", ("tie", 0, 1), ("tie", 2, 3)), nothing(ALL_FOUR)), 2)
        self.assertEqual(least(ALL_FOUR, ("both", ("tie", 0, 1), ("tie", 0, 1)), nothing(ALL_FOUR)), 1)
        # One of the two is had by all webs.
        self.assertEqual(least(ALL_FOUR, ("either", ("tie", 0, 1), ("many", 0)), nothing(ALL_FOUR)), 0)
        frame = (6, ((0, 1), (0, 2), (1, 2), (3, 4), (3, 5), (4, 5)))
        self.assertTrue(has_by_hand(frame, ("way", 0, 1), ((0, 2), (1, 2))))
        for word in WORDS:
            wish = (word, ("way", 0, 1), ("ends", 3, 2))
            self.assertEqual(least(frame, wish, nothing(frame)), 3 + 2)


if __name__ == "__main__":
    unittest.main()
