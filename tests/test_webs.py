"""Point 5: webs."""

import itertools
import random
import unittest

from allasked.errors import NoWeb
from allasked.frames import is_web, missing, number_of, web_of, webs
from tests.samples import ALL_FOUR, ALL_THREE, FRAMES, NO_TIES, ONE_PLACE, ONE_TIE, RING_OF_SEVEN
from tests.samples import all_webs, at_once, kinds_of, plain, strange_things

FOUR_IN_A_ROW = (4, ((0, 1), (1, 2), (2, 3)))
# Of FOUR_IN_A_ROW; some are pairs of places, but no ties of it.
NO_PAIR_OF_IT = [
    (0, 2), (2, 0), (0, 3), (1, 3), (0, 0), (1, 1), (3, 4), (4, 3), (-1, 0), (0, -1), (1, 10 ** 29),
    (0, True), (True, 0), (False, 1), (False, True), (True, 2), (2, True), (), (0,), (0, 1, 2),
    [0, 1], "01", "0-1", None, 0, 1, True, {0: 1}, ("0", "1"), (None, 1), ((0, 1),), ((0,), (1,)),
    ([0], 1), (0, {}),
]


class IsWeb(unittest.TestCase):
    def test_all_webs_are_webs(self):
        for frame in FRAMES:
            for web in all_webs(frame):
                self.assertIs(is_web(frame, web), True, (frame, web))

    def test_each_tuple_of_ties(self):
        ties = ALL_THREE[1]
        for count in range(5):
            for thing in itertools.product(ties, repeat=count):
                by_hand = list(thing) == sorted(set(thing))
                self.assertIs(is_web(ALL_THREE, thing), by_hand, thing)

    def test_other_way_about_or_not_rising(self):
        for thing in [((1, 0),), ((0, 1), (2, 1)), ((1, 2), (0, 1)), ((0, 1), (0, 1)), ((2, 3), (0, 1), (1, 2))]:
            self.assertIs(is_web(FOUR_IN_A_ROW, thing), False, thing)

    def test_no_tie_of_the_frame(self):
        for pair in NO_PAIR_OF_IT:
            self.assertIs(is_web(FOUR_IN_A_ROW, (pair,)), False, pair)
            self.assertIs(is_web(FOUR_IN_A_ROW, ((0, 1), pair)), False, pair)
            self.assertIs(is_web(FOUR_IN_A_ROW, (pair, (2, 3))), False, pair)
        self.assertIs(is_web(ONE_PLACE, ((0, 1),)), False)
        self.assertIs(is_web(NO_TIES, ((0, 1),)), False)

    def test_lists_and_other_kinds(self):
        for thing in [[], [(0, 1)], [[0, 1]], ([0, 1],), (0, 1), None, 0, True, False, "", "01", {}, {(0, 1): True}]:
            self.assertIs(is_web(FOUR_IN_A_ROW, thing), False, thing)

    def test_the_web_without_ties(self):
        for frame in FRAMES:
            self.assertIs(is_web(frame, ()), True)
            self.assertIs(is_web(frame, []), False)
            self.assertIs(is_web(frame, None), False)
            self.assertIs(is_web(frame, False), False)

    def test_strange_things_in_each_place(self):
        for frame in (FOUR_IN_A_ROW, ONE_PLACE, RING_OF_SEVEN):
            for at, thing in enumerate(strange_things()):
                with self.subTest(at=at), at_once():
                    self.assertIs(is_web(frame, thing), False)
                    self.assertIs(is_web(frame, (thing,)), False)
                    self.assertIs(is_web(frame, ((0, 1), thing)), False)
                    self.assertIs(is_web(frame, ((0, thing),)), False)
                    self.assertIs(is_web(frame, ((thing, 1),)), False)


class WebOf(unittest.TestCase):
    def refused(self, frame, ties):
        with self.assertRaises(NoWeb):
            web_of(frame, ties)

    def test_by_hand(self):
        self.assertEqual(web_of(ALL_FOUR, [(3, 1), (0, 2), (1, 0)]), ((0, 1), (0, 2), (1, 3)))
        self.assertEqual(web_of(FOUR_IN_A_ROW, ((2, 1),)), ((1, 2),))

    def test_any_order_either_way_list_or_tuple(self):
        chance = random.Random(5)
        for frame in FRAMES:
            for web in all_webs(frame):
                ties = [tie if chance.random() < 0.5 else tie[::-1] for tie in web]
                chance.shuffle(ties)
                self.assertEqual(web_of(frame, ties), web)
                self.assertEqual(web_of(frame, tuple(ties)), web)

    def test_what_is_told_is_a_plain_web(self):
        for frame in FRAMES:
            for ties in ([], [tie[::-1] for tie in frame[1]]):
                told = web_of(frame, ties)
                self.assertEqual(kinds_of(told), kinds_of(tuple(tie[::-1] for tie in ties)))
                self.assertTrue(plain(told))
                self.assertIs(is_web(frame, told), True)

    def test_a_tie_twice(self):
        self.refused(ALL_THREE, [(0, 1), (0, 1)])
        self.refused(ALL_THREE, [(0, 1), (1, 0)])
        self.refused(ALL_THREE, ((2, 1), (0, 1), (1, 2)))
        self.refused(ONE_TIE, [(1, 0), (1, 0)])

    def test_no_tie_of_the_frame(self):
        for pair in NO_PAIR_OF_IT:
            self.refused(FOUR_IN_A_ROW, [pair])
            self.refused(FOUR_IN_A_ROW, (pair,))
            self.refused(FOUR_IN_A_ROW, [(1, 0), pair])
            self.refused(FOUR_IN_A_ROW, (pair, (2, 3)))
        for frame in (ONE_PLACE, NO_TIES):
            self.refused(frame, [(0, 1)])

    def test_wrong_kinds(self):
        for ties in [None, 0, 1, True, False, "", "01", {}, {(0, 1): 0}, (0, 1), [0, 1], [[0, 1]], ((0, 1), [1, 2])]:
            self.refused(FOUR_IN_A_ROW, ties)
            self.refused(ONE_PLACE, ties)

    def test_strange_things_in_each_place(self):
        for at, thing in enumerate(strange_things()):
            with self.subTest(at=at), at_once():
                if thing not in ([], [(0, 1)]):
                    self.refused(FOUR_IN_A_ROW, thing)
                self.refused(FOUR_IN_A_ROW, [thing])
                self.refused(FOUR_IN_A_ROW, ((0, 1), thing))
                self.refused(FOUR_IN_A_ROW, [(0, thing)])
                self.refused(FOUR_IN_A_ROW, [(thing, 1)])


class Webs(unittest.TestCase):
    def test_by_hand(self):
        self.assertEqual(webs(ALL_THREE), [
            (),
            ((0, 1),),
            ((0, 2),),
            ((0, 1), (0, 2)),
            ((1, 2),),
            ((0, 1), (1, 2)),
            ((0, 2), (1, 2)),
            ((0, 1), (0, 2), (1, 2)),
        ])

    def test_none_and_one_tie(self):
        self.assertEqual(webs(ONE_PLACE), [()])
        self.assertEqual(webs(NO_TIES), [()])
        self.assertEqual(webs(ONE_TIE), [(), ((0, 1),)])

    def test_all_in_order(self):
        for frame in FRAMES:
            told = webs(frame)
            self.assertEqual(told, all_webs(frame))
            self.assertIs(type(told), list)
            self.assertTrue(plain(told))

    def test_seven_ties(self):
        told = webs(RING_OF_SEVEN)
        self.assertEqual(len(told), 128)
        self.assertEqual(told[0], ())
        self.assertEqual(told[5], ((0, 1), (1, 2)))
        self.assertEqual(told[64], ((5, 6),))
        self.assertEqual(told[127], RING_OF_SEVEN[1])


class NumberOf(unittest.TestCase):
    def test_by_hand(self):
        self.assertEqual(number_of(ALL_FOUR, ()), 0)
        self.assertEqual(number_of(ALL_FOUR, ((0, 1),)), 1)
        self.assertEqual(number_of(ALL_FOUR, ((0, 2), (2, 3))), 34)
        self.assertEqual(number_of(ALL_FOUR, ALL_FOUR[1]), 63)

    def test_each_web(self):
        for frame in FRAMES:
            for number, web in enumerate(all_webs(frame)):
                told = number_of(frame, web)
                self.assertEqual(told, number)
                self.assertIs(type(told), int)


class Missing(unittest.TestCase):
    def test_by_hand(self):
        self.assertEqual(missing(ALL_THREE, ((0, 2),)), ((0, 1), (1, 2)))
        self.assertEqual(missing(ALL_THREE, ()), ALL_THREE[1])
        self.assertEqual(missing(ALL_THREE, ALL_THREE[1]), ())
        self.assertEqual(missing(ONE_PLACE, ()), ())
        self.assertEqual(missing(ONE_TIE, ()), ((0, 1),))

    def test_each_web(self):
        for frame in FRAMES:
            found = all_webs(frame)
            for number, web in enumerate(found):
                told = missing(frame, web)
                self.assertEqual(told, found[len(found) - 1 - number])
                self.assertIs(type(told), tuple)


class WebsAreKept(unittest.TestCase):
    def test_what_is_handed_in_stays(self):
        ties = [(3, 1), (0, 2), (1, 0)]
        web_of(ALL_FOUR, ties)
        self.assertEqual(ties, [(3, 1), (0, 2), (1, 0)])

    def test_what_is_refused_stays_too(self):
        for ties in [[(2, 1), (1, 2)], [(2, 1), [0, 1]], [(2, 0), (0, 1), (5, 1)], [(1, 0)] * 9]:
            former = list(ties)
            with self.assertRaises(NoWeb):
                web_of(ALL_THREE, ties)
            self.assertEqual(ties, former)

    def test_a_list_changed_afterwards(self):
        ties = [(1, 0), (2, 1)]
        told = web_of(ALL_FOUR, ties)
        ties.append((0, 2))
        ties[0] = "gone"
        self.assertEqual(told, ((0, 1), (1, 2)))
        ties.clear()
        self.assertEqual(told, ((0, 1), (1, 2)))

    def test_a_list_told_is_the_askers_own(self):
        for frame in (ONE_PLACE, ONE_TIE, ALL_THREE, RING_OF_SEVEN):
            told = webs(frame)
            kept = webs(frame)
            told.reverse()
            told.append("more")
            self.assertEqual(webs(frame), all_webs(frame))
            told.clear()
            self.assertEqual(kept, all_webs(frame))
            self.assertEqual(webs(frame), all_webs(frame))
            self.assertEqual(number_of(frame, frame[1]), len(kept) - 1)


if __name__ == "__main__":
    unittest.main()
