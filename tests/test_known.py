"""Point 10: what is known."""

import itertools
import random
import unittest

from allasked.known import fits, fitting, is_known, settled
from tests.samples import ALL_FOUR, ALL_THREE, FRAMES, NO_TIES, ONE_PLACE, ONE_TIE, RING_OF_SEVEN
from tests.samples import all_known, all_webs, at_once, doubled, has_by_hand, kinds_of, nested, plain
from tests.samples import simple_wishes, some_known, some_wish, strange_things


def fits_by_hand(frame, known, web):
    """Whether no tie is known otherwise than the web has it."""
    wrong = [tie for tie, truth in zip(frame[1], known) if truth is True and tie not in web]
    wrong += [tie for tie, truth in zip(frame[1], known) if truth is False and tie in web]
    return not wrong


class IsKnown(unittest.TestCase):
    def test_all_that_may_be_known(self):
        for frame in FRAMES:
            ties = len(frame[1])
            for known in itertools.islice(itertools.product((None, False, True), repeat=ties), 250):
                self.assertIs(is_known(frame, known), True)
            self.assertIs(is_known(frame, (None,) * ties), True)
            self.assertIs(is_known(frame, (True,) * ties), True)
            self.assertIs(is_known(frame, (False,) * ties), True)

    def test_too_few_and_too_many(self):
        for frame in FRAMES:
            for count in range(12):
                for thing in (None, True, False):
                    self.assertIs(is_known(frame, (thing,) * count), count == len(frame[1]))

    def test_numbers_for_truths(self):
        for wrong in [0, 1, -1, 2, 10 ** 29, "", "+", "None", "True", (), (None,), [], [None], {}, {None: None}]:
            for at in range(3):
                thing = [None, True, False]
                thing[at] = wrong
                self.assertIs(is_known(ALL_THREE, tuple(thing)), False, thing)
            self.assertIs(is_known(ONE_TIE, (wrong,)), False, wrong)

    def test_lists_and_other_kinds(self):
        for thing in [[], [None] * 3, [True, False, None], None, True, False, 0, 3, "+-.", "...", {}, {0: None}]:
            self.assertIs(is_known(ALL_THREE, thing), False, thing)
            self.assertIs(is_known(ONE_PLACE, thing), False, thing)
        self.assertIs(is_known(ONE_PLACE, ()), True)
        self.assertIs(is_known(NO_TIES, (None,)), False)
        self.assertIs(is_known(ALL_THREE, ((0, 1), (0, 2), (1, 2))), False)

    def test_strange_things_in_each_place(self):
        for frame in (ALL_THREE, ONE_PLACE, RING_OF_SEVEN):
            for at, thing in enumerate(strange_things()):
                with self.subTest(at=at), at_once():
                    self.assertIs(is_known(frame, thing), False)
                    if thing is not None and not isinstance(thing, bool):
                        for ties in range(9):
                            self.assertIs(is_known(frame, (None,) * ties + (thing,)), False)
                            self.assertIs(is_known(frame, (thing,) + (True,) * ties), False)
        with at_once():
            self.assertIs(is_known((3, ((0, 1), (0, 2))), doubled(None)), False)
            self.assertIs(is_known(ONE_TIE, nested(None, lambda thing: (thing,))), False)


class Fits(unittest.TestCase):
    def test_by_hand(self):
        known = (True, None, False)
        self.assertIs(fits(ALL_THREE, known, ((0, 1),)), True)
        self.assertIs(fits(ALL_THREE, known, ((0, 1), (0, 2))), True)
        self.assertIs(fits(ALL_THREE, known, ()), False)
        self.assertIs(fits(ALL_THREE, known, ((0, 2),)), False)
        self.assertIs(fits(ALL_THREE, known, ((0, 1), (1, 2))), False)
        self.assertIs(fits(ALL_THREE, known, ALL_THREE[1]), False)
        self.assertIs(fits(ONE_PLACE, (), ()), True)

    def test_nothing_known(self):
        for frame in FRAMES:
            for web in all_webs(frame):
                self.assertIs(fits(frame, (None,) * len(frame[1]), web), True)

    def test_all_known_and_each_web(self):
        for frame in (ONE_PLACE, ONE_TIE, (3, ((0, 1), (1, 2))), ALL_THREE, (4, ((0, 1), (0, 3), (1, 2), (2, 3)))):
            for known in all_known(frame):
                for web in all_webs(frame):
                    self.assertIs(fits(frame, known, web), fits_by_hand(frame, known, web), (frame, known, web))


class Fitting(unittest.TestCase):
    def test_by_hand(self):
        self.assertEqual(fitting(ALL_THREE, (None, True, None)), [
            ((0, 2),),
            ((0, 1), (0, 2)),
            ((0, 2), (1, 2)),
            ((0, 1), (0, 2), (1, 2)),
        ])
        self.assertEqual(fitting(ALL_THREE, (None, False, None)), [(), ((0, 1),), ((1, 2),), ((0, 1), (1, 2))])
        self.assertEqual(fitting(ALL_THREE, (True, False, True)), [((0, 1), (1, 2))])
        self.assertEqual(fitting(ONE_PLACE, ()), [()])
        self.assertEqual(fitting(ONE_TIE, (None,)), [(), ((0, 1),)])

    def test_in_the_order_of_webs(self):
        chance = random.Random(10)
        for frame in FRAMES:
            self.assertEqual(fitting(frame, (None,) * len(frame[1])), all_webs(frame))
            for known in some_known(frame, chance, 12):
                told = fitting(frame, known)
                self.assertEqual(told, [web for web in all_webs(frame) if fits_by_hand(frame, known, web)])
                self.assertEqual(len(told), 2 ** known.count(None))
                self.assertIs(type(told), list)
                self.assertTrue(plain(told))

    def test_the_list_is_the_askers_own(self):
        known = (None, True, False)
        kept = fitting(ALL_THREE, known)
        told = fitting(ALL_THREE, known)
        told.append("more")
        told[0] = "gone"
        by_hand = [((0, 2),), ((0, 1), (0, 2))]
        self.assertEqual(kept, by_hand)
        self.assertEqual(fitting(ALL_THREE, known), by_hand)
        self.assertEqual(kinds_of(known), kinds_of((None, True, False)))


class Settled(unittest.TestCase):
    def test_by_hand(self):
        self.assertIsNone(settled(ALL_THREE, ("joined",), (None, None, None)))
        self.assertIsNone(settled(ALL_THREE, ("joined",), (True, None, None)))
        self.assertIsNone(settled(ALL_THREE, ("joined",), (False, None, None)))
        self.assertIs(settled(ALL_THREE, ("joined",), (True, None, True)), True)
        self.assertIs(settled(ALL_THREE, ("joined",), (False, None, False)), False)
        self.assertIs(settled(ALL_THREE, ("joined",), (True, True, True)), True)
        self.assertIs(settled(ALL_THREE, ("ring",), (None, None, False)), False)
        self.assertIsNone(settled(ALL_THREE, ("ring",), (None, True, True)))

    def test_a_wish_of_all_or_none(self):
        for frame in FRAMES:
            for known in ((None,) * len(frame[1]), (True,) * len(frame[1])):
                self.assertIs(settled(frame, ("many", 0), known), True)
                self.assertIs(settled(frame, ("many", 99), known), False)

    def test_without_ties(self):
        self.assertIs(settled(ONE_PLACE, ("joined",), ()), True)
        self.assertIs(settled(ONE_PLACE, ("ring",), ()), False)
        self.assertIs(settled(NO_TIES, ("joined",), ()), False)

    def test_one_web_has_it_or_has_it_not(self):
        for number in range(8):
            one = tuple(k == number for k in range(8))
            others = tuple(k != number for k in range(8))
            self.assertIsNone(settled(ALL_THREE, ("told", one), (None, None, None)))
            self.assertIsNone(settled(ALL_THREE, ("told", others), (None, None, None)))

    def test_all_that_may_be_known(self):
        chance = random.Random(100)
        for frame in (ONE_PLACE, ONE_TIE, ALL_THREE, ALL_FOUR):
            for wish in [("joined",), ("ring",), ("odd",), ("hub",), some_wish(frame, chance, 2)]:
                truths = {web: has_by_hand(frame, wish, web) for web in all_webs(frame)}
                for known in all_known(frame):
                    found = {truths[web] for web in truths if fits_by_hand(frame, known, web)}
                    by_hand = found.pop() if len(found) == 1 else None
                    self.assertIs(settled(frame, wish, known), by_hand, (frame, wish, known))

    def test_seven_ties(self):
        chance = random.Random(101)
        frame = RING_OF_SEVEN
        for wish in chance.sample(simple_wishes(frame, chance), 12):
            for known in some_known(frame, chance, 12):
                found = {has_by_hand(frame, wish, web) for web in all_webs(frame) if fits_by_hand(frame, known, web)}
                by_hand = found.pop() if len(found) == 1 else None
                self.assertIs(settled(frame, wish, known), by_hand, (wish, known))

    def test_many_parts_at_once(self):
        wish = nested(("sides",), lambda inner: ("one", inner, ("sides",)), 11)
        with at_once():
            self.assertIs(settled(RING_OF_SEVEN, wish, (None,) * 7), False)


if __name__ == "__main__":
    unittest.main()
